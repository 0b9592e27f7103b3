/-
  The law's parts as the document's, walked; rows of the document's parts in memory. Conditions: as each theorem states.
-/
import Derived.Test.YtelbhegkaihjhaaDoorKmC
import Derived.Test.YtelbhegkaihjhaaDoorKyN
namespace Go.Proofs.YtelbhegkaihjhaaDoor
open Go.RowKit
open Vi

theorem infoRPart : (Tryd.prog.info? 46).map (fun i => (i.zero, i.size, i.bytes)) = some (some (.agg #[.int .u8 0, .int .i64 0, .int .u64 0, .string ⟨#[]⟩]), 4, 40) := by kernel_rfl
theorem rprow_of_owns {w : World} {B : Nat} {v : Value} {l : List KPart} (h : w.ownsRow B 46 4 v l.length (l.flatMap KPart.cells)) :
    ∃ A c, v = .slice A l.length c ∧ PRow w A l := by
  have hc := fun g hg => h.cells (g := g) hg
  rcases h.2 with ⟨rfl, h0⟩ | ⟨g, cap, cur, rfl, hb, hg, _⟩
  · exact ⟨none, 0, by rw [h0], fun h1 => by omega⟩
  · refine ⟨some ⟨g, 0, none⟩, cap, rfl, fun _ => ⟨_, rfl, (Array.getElem?_eq_some_iff.1 hg).1, fun i hi => ?_⟩⟩
    have hk : ∀ r u, r < 4 → l[i].cells[r]? = some u → w.cell? ⟨g, i * 4 + r, none⟩ = some u := fun r u hr hu => by
      have := hc g rfl (i * 4 + r) u (by rw [flat_at l i hi r hr]; exact hu)
      rwa [add_flat] at this
    rw [add_flat]
    exact ⟨hk 0 _ (by decide) rfl, hk 1 _ (by decide) rfl, hk 2 _ (by decide) rfl, hk 3 _ (by decide) rfl⟩
/-- a row that grows, a box, and what was there -/
structure PW (w : World) (a : List KPart) (v : Value) (k0 : Nat) (c : Array Value) (t : TypeId) (W : World) : Prop where
  own : W.ownsRow w.heap.size 46 4 v a.length (a.flatMap KPart.cells)
  below : Below w.heap.size w W
  ab : W.heap[k0]? = some (.cells c t (0, 0))
  ka : v.ownBlock ≠ some k0
  kk : w.heap.size ≤ k0
section
variable {w wr W W' : World} {a : List KPart} {v : Value} {k0 : Nat} {c : Array Value} {t : TypeId}
theorem pw_start (h : wr.ownsRow w.heap.size 46 4 v a.length (a.flatMap KPart.cells)) (hb : Below w.heap.size w wr) (c : Array Value) (t : TypeId) : PW w a v wr.heap.size c t (wr.alloc (.cells c t (0, 0))) :=
  ⟨h.alloc _, hb.alloc hb.size _, heap_alloc_new _ _, fun e => by have := (h.lt _ e).2; omega, hb.size⟩
theorem pw_set (h : PW w a v k0 c t W) (j : Nat) (x : Value) : PW w a v k0 (c.setIfInBounds j x) t (W.setCell ⟨k0, j, none⟩ x) :=
  ⟨h.own.kept (grown_set W k0 j x) (.inr h.ka), h.below.setCell h.kk x, heap_set h.ab j x, h.ka, h.kk⟩
theorem pw_drew (h : PW w a v k0 c t W) : PW w a v k0 c t W.drew := ⟨h.own, h.below.drew, h.ab, h.ka, h.kk⟩
theorem pw_size (h : PW w a v k0 c t W) : k0 < W.heap.size := (Array.getElem?_eq_some_iff.1 h.ab).1
theorem rbelow_grown (hb : Below w.heap.size w wr) (h : wr.ownsRow w.heap.size 46 4 v a.length (a.flatMap KPart.cells)) (hg : wr.grownBy W' v.ownBlock) : Below w.heap.size w W' :=
  hb.trans ⟨hg.os, hg.tape, hg.output, hg.size, fun k hk => hg.block k (Nat.lt_of_lt_of_le hk hb.size) fun e => by have := (h.lt k e.symm).1; omega⟩
end
theorem rcells4 {g : Nat} {t : TypeId} {wr : World} {x0 x1 x2 x3 : Value} (h : wr.heap[g]? = some (.cells #[x0, x1, x2, x3] t (0, 0))) :
    (wr.cell? ⟨g, 0, none⟩ = some x0 ∧ wr.cell? ⟨g, 1, none⟩ = some x1 ∧ wr.cell? ⟨g, 2, none⟩ = some x2 ∧ wr.cell? ⟨g, 3, none⟩ = some x3) ∧ ∀ j, wr.frozen? ⟨g, j, none⟩ = false :=
  ⟨⟨cell_in h 0 _ rfl, cell_in h 1 _ rfl, cell_in h 2 _ rfl, cell_in h 3 _ rfl⟩, free_in h⟩
theorem rnews (W : World) (k : Nat) (hk : k = W.heap.size) (x0 x1 x2 x3 : Value) (t : TypeId) : ∀ j y, [x0, x1, x2, x3][j]? = some y → (W.alloc (.cells #[x0, x1, x2, x3] t)).cell? ((⟨k, 0, none⟩ : Addr).add j) = some y := by
  subst hk
  exact World.news_of_block (heap_alloc_new W _)
def RToJ (w : World) (l : List KPart) (v i : Value) (wr : World) : Prop :=
  ∃ (j : Nat) (a : List KPart), j ≤ l.length ∧ a = l.take j ∧ i = .int .i64 j ∧ wr.ownsRow w.heap.size 46 4 v a.length (a.flatMap KPart.cells) ∧ Below w.heap.size w wr
def RToPost (w : World) (l : List KPart) (e : Ending) (w' : World) : Prop := ∃ A c, e = .returned (.slice A l.length c) ∧ PRow w' A l ∧ Below w.heap.size w w'
end Go.Proofs.YtelbhegkaihjhaaDoor
