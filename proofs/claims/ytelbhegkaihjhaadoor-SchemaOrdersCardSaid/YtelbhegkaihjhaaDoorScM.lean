/-
  What the law of orders' places needs. Conditions: as each theorem states.
-/
import Derived.Test.YtelbhegkaihjhaaDoorScL
namespace Go.Proofs.YtelbhegkaihjhaaDoor
open Go.RowKit
open Vi

theorem nine_cells {W : World} {g : Nat} {x0 x1 x2 x3 x4 x5 x6 x7 x8 : Value} {t : TypeId} (h : W.heap[g]? = some (.cells #[x0, x1, x2, x3, x4, x5, x6, x7, x8] t (0, 0))) :
    W.cell? ⟨g, 0, none⟩ = some x0 ∧ W.cell? ⟨g, 1, none⟩ = some x1 ∧ W.cell? ⟨g, 2, none⟩ = some x2 ∧ W.cell? ⟨g, 3, none⟩ = some x3 ∧ W.cell? ⟨g, 4, none⟩ = some x4 ∧ W.cell? ⟨g, 5, none⟩ = some x5 ∧ W.cell? ⟨g, 6, none⟩ = some x6 ∧ W.cell? ⟨g, 7, none⟩ = some x7 ∧ W.cell? ⟨g, 8, none⟩ = some x8 :=
  ⟨cell_in h 0 _ rfl, cell_in h 1 _ rfl, cell_in h 2 _ rfl, cell_in h 3 _ rfl, cell_in h 4 _ rfl, cell_in h 5 _ rfl, cell_in h 6 _ rfl, cell_in h 7 _ rfl, cell_in h 8 _ rfl⟩
theorem better_any (sd a b : Int) (w : World) (bt : Bool) (h : (sd = 1 ∧ bt = decide (b < a)) ∨ (sd = 2 ∧ bt = decide (a < b))) :
    Calls Tryd.prog 20 #[.int .i64 sd, .int .i64 a, .int .i64 b] w fun e w' => e = .returned (.bool bt) ∧ w = w' := by
  rcases h with ⟨rfl, rfl⟩ | ⟨rfl, rfl⟩
  · go_enter Tryd.func20, Tryd.ntmps20
    go_wp2
    go_ret
    exact ⟨rfl, rfl⟩
  · go_enter Tryd.func20, Tryd.ntmps20
    go_wp2
    go_ret
    exact ⟨rfl, rfl⟩
/-- two boxes of orders -/
structure OW (w : World) (a b : Array Value) (W : World) : Prop where
  below : Below w.heap.size w W
  ba : W.heap[w.heap.size]? = some (.cells a 39 (0, 0))
  bb : W.heap[w.heap.size + 1]? = some (.cells b 39 (0, 0))
structure OX (w : World) (a b : Array Value) (k : Nat) (x : Th) (W : World) : Prop where
  ow : OW w a b W
  bx : W.heap[k]? = some (.cells x.cells 24 (0, 0))
section
variable {w W W' : World} {a b : Array Value} {k : Nat} {x : Th}
theorem ow_on (h : OW w a b W) (hb : Below W.heap.size W W') : OW w a b W' := ⟨h.below.trans (hb.mono h.below.size), (hb.block _ (Array.getElem?_eq_some_iff.1 h.ba).1).trans h.ba, (hb.block _ (Array.getElem?_eq_some_iff.1 h.bb).1).trans h.bb⟩
theorem ow_alloc (h : OW w a b W) (o : Obj) : OW w a b (W.alloc o) := ow_on h ((Below.refl _ _).alloc (Nat.le_refl _) o)
theorem ow_drew (h : OW w a b W) : OW w a b W.drew := ⟨h.below.drew, h.ba, h.bb⟩
theorem ow_new (w : World) (a b : Array Value) : OW w a b ((w.alloc (.cells a 39)).alloc (.cells b 39)) :=
  ⟨((Below.refl _ _).alloc (Nat.le_refl _) _).alloc (by simp) _, heap_old (heap_alloc_new w _) _, heap_second w _ _⟩
theorem ow_seta (h : OW w a b W) (j : Nat) (v : Value) : OW w (a.setIfInBounds j v) b (W.setCell ⟨w.heap.size, j, none⟩ v) :=
  ⟨h.below.setCell (Nat.le_refl _) v, heap_set h.ba j v, ((grown_set W w.heap.size j v).block _ (Array.getElem?_eq_some_iff.1 h.bb).1 (by simp)).trans h.bb⟩
theorem ow_setb (h : OW w a b W) (j : Nat) (v : Value) : OW w a (b.setIfInBounds j v) (W.setCell ⟨w.heap.size + 1, j, none⟩ v) :=
  ⟨h.below.setCell (Nat.le_succ _) v, ((grown_set W (w.heap.size + 1) j v).block _ (Array.getElem?_eq_some_iff.1 h.ba).1 (by simp)).trans h.ba, heap_set h.bb j v⟩
theorem ox_on (h : OX w a b k x W) (hb : Below W.heap.size W W') : OX w a b k x W' := ⟨ow_on h.ow hb, (hb.block _ (Array.getElem?_eq_some_iff.1 h.bx).1).trans h.bx⟩
theorem ox_drew (h : OX w a b k x W) : OX w a b k x W.drew := ⟨ow_drew h.ow, h.bx⟩
theorem ox_new (h : OW w a b W) (x : Th) : OX w a b W.heap.size x (W.alloc (.cells x.cells 24)) := ⟨ow_alloc h _, heap_alloc_new W _⟩
end
end Go.Proofs.YtelbhegkaihjhaaDoor
