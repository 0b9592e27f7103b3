/-
  Blocks of memory known whole: what an alloc, a store, growth leaves of them. Conditions: as each theorem states.
-/
import Derived.Test.YtfgahmkfhlbogaaLaw
import Derived.Deep.WholeRow
import Derived.Deep.OwnRows
import Derived.Lib.Hide
import Derived.Deep.QuietTactic
namespace Go.Proofs.Ytfgahmkfhlbogaa.Hx
open Go Go.RowKit

theorem heap_set {w : World} {b i : Nat} {c : Array Value} {t : TypeId} {f : Nat × Nat} (h : w.heap[b]? = some (.cells c t f)) (v : Value) : (w.setCell ⟨b, i, none⟩ v).heap[b]? = some (.cells (c.setIfInBounds i v) t f) := by
  simp [World.setCell, Array.getElem?_modify, h]
theorem cells_in {w : World} {b : Nat} {c : Array Value} {t : TypeId} (h : w.heap[b]? = some (.cells c t (0, 0))) (i : Nat) {v : Value} (hv : c[i]? = some v) : w.cell? ⟨b, i, none⟩ = some v ∧ w.frozen? ⟨b, i, none⟩ = false := by
  refine ⟨?_, ?_⟩
  · rw [cell_of_row _ _ i _ _ (0, 0) h]; exact hv
  · unfold World.frozen?; rw [h]; simp
theorem cell1 {w : World} {b : Nat} {v : Value} {t : TypeId} (h : w.heap[b]? = some (.cells #[v] t (0, 0))) : w.cell? ⟨b, 0, none⟩ = some v ∧ w.frozen? ⟨b, 0, none⟩ = false := cells_in h 0 rfl
theorem cell2 {w : World} {b : Nat} {x0 x1 : Value} {t : TypeId} (h : w.heap[b]? = some (.cells #[x0, x1] t (0, 0))) :
    (w.cell? ⟨b, 0, none⟩ = some x0 ∧ w.cell? ⟨b, 1, none⟩ = some x1) ∧ (w.frozen? ⟨b, 0, none⟩ = false ∧ w.frozen? ⟨b, 1, none⟩ = false) :=
  ⟨⟨(cells_in h 0 rfl).1, (cells_in h 1 rfl).1⟩, (cells_in h 0 rfl).2, (cells_in h 1 rfl).2⟩
theorem cell4 {w : World} {b : Nat} {x0 x1 x2 x3 : Value} {t : TypeId} (h : w.heap[b]? = some (.cells #[x0, x1, x2, x3] t (0, 0))) :
    (w.cell? ⟨b, 0, none⟩ = some x0 ∧ w.cell? ⟨b, 1, none⟩ = some x1 ∧ w.cell? ⟨b, 2, none⟩ = some x2 ∧ w.cell? ⟨b, 3, none⟩ = some x3) ∧ (w.frozen? ⟨b, 0, none⟩ = false ∧ w.frozen? ⟨b, 1, none⟩ = false ∧ w.frozen? ⟨b, 2, none⟩ = false ∧ w.frozen? ⟨b, 3, none⟩ = false) :=
  ⟨⟨(cells_in h 0 rfl).1, (cells_in h 1 rfl).1, (cells_in h 2 rfl).1, (cells_in h 3 rfl).1⟩, (cells_in h 0 rfl).2, (cells_in h 1 rfl).2, (cells_in h 2 rfl).2, (cells_in h 3 rfl).2⟩
theorem cell6 {w : World} {b : Nat} {x0 x1 x2 x3 x4 x5 : Value} {t : TypeId} (h : w.heap[b]? = some (.cells #[x0, x1, x2, x3, x4, x5] t (0, 0))) :
    (w.cell? ⟨b, 0, none⟩ = some x0 ∧ w.cell? ⟨b, 1, none⟩ = some x1 ∧ w.cell? ⟨b, 2, none⟩ = some x2 ∧ w.cell? ⟨b, 3, none⟩ = some x3 ∧ w.cell? ⟨b, 4, none⟩ = some x4 ∧ w.cell? ⟨b, 5, none⟩ = some x5) ∧
    (w.frozen? ⟨b, 0, none⟩ = false ∧ w.frozen? ⟨b, 1, none⟩ = false ∧ w.frozen? ⟨b, 2, none⟩ = false ∧ w.frozen? ⟨b, 3, none⟩ = false ∧ w.frozen? ⟨b, 4, none⟩ = false ∧ w.frozen? ⟨b, 5, none⟩ = false) :=
  ⟨⟨(cells_in h 0 rfl).1, (cells_in h 1 rfl).1, (cells_in h 2 rfl).1, (cells_in h 3 rfl).1, (cells_in h 4 rfl).1, (cells_in h 5 rfl).1⟩,
   (cells_in h 0 rfl).2, (cells_in h 1 rfl).2, (cells_in h 2 rfl).2, (cells_in h 3 rfl).2, (cells_in h 4 rfl).2, (cells_in h 5 rfl).2⟩
theorem set1_row {w : World} {b : Nat} {v : Value} {t : TypeId} (h : w.heap[b]? = some (.cells #[v] t (0, 0))) (v' : Value) : (w.setCell ⟨b, 0, none⟩ v').heap[b]? = some (.cells #[v'] t (0, 0)) := heap_set (i := 0) h v'
theorem set_other {w : World} {b k i : Nat} {o : Obj} (h : w.heap[k]? = some o) (hne : k ≠ b) (v : Value) : (w.setCell ⟨b, i, none⟩ v).heap[k]? = some o :=
  (Below.heap_setCell w ⟨b, i, none⟩ v k (fun e => hne e)).trans h
theorem hp_lt {W : World} {k : Nat} {ob : Obj} (h : W.heap[k]? = some ob) : k < W.heap.size := (Array.getElem?_eq_some_iff.1 h).1
theorem hp_on {W W2 : World} {k : Nat} {ob : Obj} (h : W.heap[k]? = some ob) (hb : Below W.heap.size W W2) : W2.heap[k]? = some ob := (hb.block _ (hp_lt h)).trans h
theorem hp_alloc {W : World} {k : Nat} {ob : Obj} (h : W.heap[k]? = some ob) (o : Obj) : (W.alloc o).heap[k]? = some ob := hp_on h ((Below.refl _ W).alloc (Nat.le_refl _) o)
theorem hp_first (W : World) (o o' : Obj) : ((W.alloc o).alloc o').heap[W.heap.size]? = some o := hp_alloc (heap_alloc_last W o) o'
theorem hp_second (W : World) (o o' : Obj) : ((W.alloc o).alloc o').heap[W.heap.size + 1]? = some o' := by
  have := heap_alloc_last (W.alloc o) o'; rwa [World.size_alloc] at this
theorem hp_third (W : World) (o o' o'' : Obj) : (((W.alloc o).alloc o').alloc o'').heap[W.heap.size + 1 + 1]? = some o'' := by
  have := heap_alloc_last ((W.alloc o).alloc o') o''; rwa [World.size_alloc, World.size_alloc] at this
theorem own_on {W W2 : World} {B : Nat} {T : TypeId} {c : Nat} {v : Value} {n : Nat} {xs : List Value} (h : W.ownsRow B T c v n xs) (b : Below W.heap.size W W2) : W2.ownsRow B T c v n xs :=
  h.kept (row := none) ⟨b.os, b.tape, b.output, b.size, fun k hk _ => b.block k hk⟩ (by cases v.ownBlock <;> simp)
theorem grown_set (w : World) (b i : Nat) (v : Value) : w.grownBy (w.setCell ⟨b, i, none⟩ v) (some b) :=
  ⟨rfl, rfl, rfl, by simp, fun k _ hne => Below.heap_setCell w ⟨b, i, none⟩ v k (fun e => hne (by rw [e]))⟩
theorem own_set {W : World} {B : Nat} {T : TypeId} {c : Nat} {v : Value} {n : Nat} {xs : List Value} {b i : Nat} {u : Value} (o : W.ownsRow B T c v n xs) (hb : b < B) : (W.setCell ⟨b, i, none⟩ u).ownsRow B T c v n xs :=
  o.kept (grown_set W b i u) (.inr (fun e => by have := (o.lt _ e).1; omega))
theorem grown_t {a b c : World} {row : Option Nat} (h : a.grownBy b row) (k : b.grownBy c row) : a.grownBy c row :=
  ⟨k.os.trans h.os, k.tape.trans h.tape, k.output.trans h.output, Nat.le_trans h.size k.size, fun j hj hne => (k.block j (Nat.lt_of_lt_of_le hj h.size) hne).trans (h.block j hj hne)⟩
theorem grown_b {w w1 : World} (hb : Below w.heap.size w w1) (row : Option Nat) : w.grownBy w1 row := ⟨hb.os, hb.tape, hb.output, hb.size, fun k hk _ => hb.block k hk⟩
theorem drew_below (W : World) : Below W.heap.size W W.drew := ⟨rfl, rfl, rfl, Nat.le_refl _, fun _ _ => rfl⟩
theorem drewN_below (W : World) (n : Nat) : Below W.heap.size W (W.drewN n) := ⟨rfl, rfl, rfl, Nat.le_refl _, fun _ _ => rfl⟩
theorem below_on {B : Nat} {w w1 w2 : World} (h : Below B w w1) (hB : B ≤ w1.heap.size) (h2 : Below w1.heap.size w1 w2) : Below B w w2 := h.trans (h2.mono hB)
end Go.Proofs.Ytfgahmkfhlbogaa.Hx
