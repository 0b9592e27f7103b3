/-
  The Go text of edits, walked: rows that are appended to; what Parse has in memory. Conditions: as each theorem states.
-/
import Derived.Test.YtkocekogkpemiaaDoorEdG
import Derived.Deep.AppendLies
import Derived.Deep.RegionLaw
namespace Go.Proofs.YtkocekogkpemiaaDoor.Ed
open Go.RowKit
open Go.Proofs.YtkocekogkpemiaaDoor
open Vi Ba

def Fil.cells (a : Fil) : List Value := [.int .i64 a.level, .int .u64 a.number, .int .u64 a.size, .int .u64 a.count, .string a.least, .string a.most]
def Gon.cells (g : Gon) : List Value := [.int .i64 g.level, .int .u64 g.number]
def aCells (l : List Fil) : List Value := l.flatMap Fil.cells
def gCells (l : List Gon) : List Value := l.flatMap Gon.cells
theorem aCells_snoc (l : List Fil) (c : Fil) : aCells (l ++ [c]) = aCells l ++ c.cells := by unfold aCells; rw [List.flatMap_append]; simp
theorem gCells_snoc (l : List Gon) (c : Gon) : gCells (l ++ [c]) = gCells l ++ c.cells := by unfold gCells; rw [List.flatMap_append]; simp
theorem infoAt : (Tryd.prog.info? 45).map (fun i => (i.zero, i.size, i.bytes)) = some (some (.agg #[.int .i64 0, .int .u64 0, .int .u64 0, .int .u64 0, .string ⟨#[]⟩, .string ⟨#[]⟩]), 6, 64) := by kernel_rfl
theorem infoGone : (Tryd.prog.info? 72).map (fun i => (i.zero, i.size, i.bytes)) = some (some (.agg #[.int .i64 0, .int .u64 0]), 2, 16) := by kernel_rfl
theorem aflat_at : ∀ (l : List Fil) (i : Nat) (hi : i < l.length) (r : Nat), r < 6 → (aCells l)[i * 6 + r]? = l[i].cells[r]?
  | p :: l, 0, _, r, hr => by
    rw [aCells, List.flatMap_cons, Nat.zero_mul, Nat.zero_add, List.getElem?_append_left (by simpa [Fil.cells] using hr)]; rfl
  | p :: l, i + 1, hi, r, hr => by
    have e : (i + 1) * 6 + r - p.cells.length = i * 6 + r := by simp [Fil.cells]; omega
    rw [aCells, List.flatMap_cons, List.getElem?_append_right (by simp [Fil.cells]; omega), e]
    exact aflat_at l i (by simpa using hi) r hr
theorem gflat_at : ∀ (l : List Gon) (i : Nat) (hi : i < l.length) (r : Nat), r < 2 → (gCells l)[i * 2 + r]? = l[i].cells[r]?
  | p :: l, 0, _, r, hr => by
    rw [gCells, List.flatMap_cons, Nat.zero_mul, Nat.zero_add, List.getElem?_append_left (by simpa [Gon.cells] using hr)]; rfl
  | p :: l, i + 1, hi, r, hr => by
    have e : (i + 1) * 2 + r - p.cells.length = i * 2 + r := by simp [Gon.cells]; omega
    rw [gCells, List.flatMap_cons, List.getElem?_append_right (by simp [Gon.cells]; omega), e]
    exact gflat_at l i (by simpa using hi) r hr
theorem arow_of_owns {w : World} {B : Nat} {v : Value} {l : List Fil} (h : w.ownsRow B 45 6 v l.length (aCells l)) :
    ∃ A c, v = .slice A l.length c ∧ ARow w A l := by
  have hc := fun g hg => h.cells (g := g) hg
  rcases h.2 with ⟨rfl, h0⟩ | ⟨g, cap, cur, rfl, hb, hg, _⟩
  · exact ⟨none, 0, by rw [h0], fun h1 => by omega⟩
  · refine ⟨some ⟨g, 0, none⟩, cap, rfl, fun _ => ⟨_, rfl, (Array.getElem?_eq_some_iff.1 hg).1, fun i hi => ?_⟩⟩
    have hk : ∀ r u, r < 6 → l[i].cells[r]? = some u → w.cell? ⟨g, i * 6 + r, none⟩ = some u := fun r u hr hu => by
      have := hc g rfl (i * 6 + r) u (by rw [aflat_at l i hi r hr]; exact hu)
      rwa [add_flat] at this
    rw [add_flat]
    exact ⟨hk 0 _ (by decide) rfl, hk 1 _ (by decide) rfl, hk 2 _ (by decide) rfl, hk 3 _ (by decide) rfl, hk 4 _ (by decide) rfl, hk 5 _ (by decide) rfl⟩
theorem grow_of_owns {w : World} {B : Nat} {v : Value} {l : List Gon} (h : w.ownsRow B 72 2 v l.length (gCells l)) :
    ∃ A c, v = .slice A l.length c ∧ GRow w A l := by
  have hc := fun g hg => h.cells (g := g) hg
  rcases h.2 with ⟨rfl, h0⟩ | ⟨g, cap, cur, rfl, hb, hg, _⟩
  · exact ⟨none, 0, by rw [h0], fun h1 => by omega⟩
  · refine ⟨some ⟨g, 0, none⟩, cap, rfl, fun _ => ⟨_, rfl, (Array.getElem?_eq_some_iff.1 hg).1, fun i hi => ?_⟩⟩
    have hk : ∀ r u, r < 2 → l[i].cells[r]? = some u → w.cell? ⟨g, i * 2 + r, none⟩ = some u := fun r u hr hu => by
      have := hc g rfl (i * 2 + r) u (by rw [gflat_at l i hi r hr]; exact hu)
      rwa [add_flat] at this
    rw [add_flat]
    exact ⟨hk 0 _ (by decide) rfl, hk 1 _ (by decide) rfl⟩
/-- Parse under way: the answer's box, the reader, the edit's box, its rows -/
structure PE (w : World) (s : ByteArray) (kb : Nat) (x y z : Nat) (va vg : Value) (la : List Fil) (lg : List Gon) (p : Pt) (W : World) : Prop where
  rd : Rd W (w.heap.size + 1) s p
  box : W.heap[w.heap.size]? = some (.cells #[.int .u64 0, .int .u64 0, .int .u64 0, .slice none 0 0, .slice none 0 0] 49 (0, 0))
  b : W.heap[kb]? = some (.cells #[.int .u64 x, .int .u64 y, .int .u64 z, va, vg] 49 (0, 0))
  owa : W.ownsRow (kb + 1) 45 6 va la.length (aCells la)
  owg : W.ownsRow (kb + 1) 72 2 vg lg.length (gCells lg)
  apart : ∀ k, va.ownBlock = some k → vg.ownBlock ≠ some k
  below : Below w.heap.size w W
  far : w.heap.size + 1 < kb
section
variable {w : World} {s : ByteArray} {kb x y z : Nat} {va vg : Value} {la : List Fil} {lg : List Gon} {p q : Pt} {W W' : World}
theorem PE.size (h : PE w s kb x y z va vg la lg p W) : kb < W.heap.size := (Array.getElem?_eq_some_iff.1 h.b).1
theorem PE.afar (h : PE w s kb x y z va vg la lg p W) : ∀ k, va.ownBlock = some k → kb < k := fun k hk => by have := (h.owa.lt k hk).1; omega
theorem PE.gfar (h : PE w s kb x y z va vg la lg p W) : ∀ k, vg.ownBlock = some k → kb < k := fun k hk => by have := (h.owg.lt k hk).1; omega
theorem pe_grown (h : PE w s kb x y z va vg la lg p W) (hr : Rd W' (w.heap.size + 1) s q) (hg : W.grownBy W' (some (w.heap.size + 1))) : PE w s kb x y z va vg la lg q W' :=
  have hz := h.size
  have hf := h.far
  ⟨hr, (hg.block _ (by omega) (fun e => by injection e with e; omega)).trans h.box, (hg.block _ (by omega) (fun e => by injection e with e; omega)).trans h.b,
    h.owa.kept hg (.inr (fun e => by have := h.afar _ e; omega)), h.owg.kept hg (.inr (fun e => by have := h.gfar _ e; omega)), h.apart,
    h.below.trans ⟨hg.os, hg.tape, hg.output, hg.size, fun k hk => hg.block k (by omega) (fun e => by injection e with e; omega)⟩, h.far⟩
theorem pe_below (h : PE w s kb x y z va vg la lg p W) (hb : Below W.heap.size W W') : PE w s kb x y z va vg la lg p W' := by
  refine pe_grown h ?_ (grown_below hb _)
  unfold Rd RdAt; rw [hb.block _ (rd_lt h.rd)]; exact h.rd
theorem pe_alloc (h : PE w s kb x y z va vg la lg p W) (o : Obj) : PE w s kb x y z va vg la lg p (W.alloc o) := pe_below h ((Below.refl _ _).alloc (Nat.le_refl _) _)
theorem pe_drewN (h : PE w s kb x y z va vg la lg p W) (k : Nat) : PE w s kb x y z va vg la lg p (W.drewN k) := pe_below h ⟨rfl, rfl, rfl, Nat.le_refl _, fun _ _ => rfl⟩
theorem pe_drew (h : PE w s kb x y z va vg la lg p W) : PE w s kb x y z va vg la lg p W.drew := ⟨h.rd, h.box, h.b, h.owa, h.owg, h.apart, h.below.drew, h.far⟩
theorem pe_cells (h : PE w s kb x y z va vg la lg p W) : (W.cell? ⟨kb, 0, none⟩ = some (.int .u64 x) ∧ W.cell? ⟨kb, 1, none⟩ = some (.int .u64 y) ∧ W.cell? ⟨kb, 2, none⟩ = some (.int .u64 z) ∧ W.cell? ⟨kb, 3, none⟩ = some va ∧ W.cell? ⟨kb, 4, none⟩ = some vg) ∧ ∀ j, W.frozen? ⟨kb, j, none⟩ = false := cells5 h.b
theorem pe_box (h : PE w s kb x y z va vg la lg p W) : (W.cell? ⟨w.heap.size, 0, none⟩ = some (.int .u64 0) ∧ W.cell? ⟨w.heap.size, 1, none⟩ = some (.int .u64 0) ∧ W.cell? ⟨w.heap.size, 2, none⟩ = some (.int .u64 0) ∧ W.cell? ⟨w.heap.size, 3, none⟩ = some (.slice none 0 0) ∧ W.cell? ⟨w.heap.size, 4, none⟩ = some (.slice none 0 0)) ∧ ∀ j, W.frozen? ⟨w.heap.size, j, none⟩ = false := cells5 h.box
/-- a row that was appended to is put into the edit's box -/
theorem pe_putA (h : PE w s kb x y z va (.slice none 0 0) la [] p W) {v2 : Value} {l2 : List Fil} {W2 : World} (hg : W.grownBy W2 va.ownBlock) (ho : W2.ownsRow (kb + 1) 45 6 v2 l2.length (aCells l2)) : PE w s kb x y z v2 (.slice none 0 0) l2 [] p (W2.setCell ⟨kb, 3, none⟩ v2) := by
  have hz := h.size
  have hf := h.far
  have hkeep : ∀ k, k ≤ kb → k < W.heap.size → W2.heap[k]? = W.heap[k]? := fun k hk hlt => hg.block k hlt (fun e => by have := h.afar _ e.symm; omega)
  have hset : ∀ k, k ≠ kb → (W2.setCell ⟨kb, 3, none⟩ v2).heap[k]? = W2.heap[k]? := fun k hk => Below.heap_setCell W2 ⟨kb, 3, none⟩ v2 k (fun e => hk (by simpa using e))
  refine ⟨?_, ?_, ?_, ?_, World.ownsRow_nil _ _ _ _, fun k _ => by simp [Value.ownBlock], ?_, hf⟩
  · unfold Rd RdAt; rw [hset _ (by omega), hkeep _ (by omega) (by omega)]; exact h.rd
  · rw [hset _ (by omega), hkeep _ (by omega) (by omega)]; exact h.box
  · exact heap_set ((hkeep kb (Nat.le_refl _) hz).trans h.b) 3 v2
  · exact ho.kept (grown_set W2 kb 3 v2) (.inr (fun e => by have := (ho.lt _ e).1; omega))
  · have hs := hg.size
    refine h.below.trans ⟨hg.os, hg.tape, hg.output, by simpa [World.setCell] using hs, fun k hk => ?_⟩
    rw [hset _ (by omega), hkeep _ (by omega) (by omega)]
theorem pe_putG (h : PE w s kb x y z va vg la lg p W) {v2 : Value} {l2 : List Gon} {W2 : World} (hg : W.grownBy W2 vg.ownBlock) (ho : W2.ownsRow (kb + 1) 72 2 v2 l2.length (gCells l2)) (hw : ∀ k, v2.ownBlock = some k → vg.ownBlock = some k ∨ W.heap.size ≤ k) : PE w s kb x y z va v2 la l2 p (W2.setCell ⟨kb, 4, none⟩ v2) := by
  have hz := h.size
  have hf := h.far
  have hkeep : ∀ k, k ≤ kb → k < W.heap.size → W2.heap[k]? = W.heap[k]? := fun k hk hlt => hg.block k hlt (fun e => by have := h.gfar _ e.symm; omega)
  have hset : ∀ k, k ≠ kb → (W2.setCell ⟨kb, 4, none⟩ v2).heap[k]? = W2.heap[k]? := fun k hk => Below.heap_setCell W2 ⟨kb, 4, none⟩ v2 k (fun e => hk (by simpa using e))
  have hA : W2.ownsRow (kb + 1) 45 6 va la.length (aCells la) := by
    cases hv : vg.ownBlock with
    | none => rw [hv] at hg; exact h.owa.kept hg (Classical.em _)
    | some k => rw [hv] at hg; exact h.owa.kept hg (.inr fun e => h.apart k e hv)
  refine ⟨?_, ?_, ?_, ?_, ?_, fun k hk e => ?_, ?_, hf⟩
  · unfold Rd RdAt; rw [hset _ (by omega), hkeep _ (by omega) (by omega)]; exact h.rd
  · rw [hset _ (by omega), hkeep _ (by omega) (by omega)]; exact h.box
  · exact heap_set ((hkeep kb (Nat.le_refl _) hz).trans h.b) 4 v2
  · exact hA.kept (grown_set W2 kb 4 v2) (.inr (fun e => by have := (hA.lt _ e).1; omega))
  · exact ho.kept (grown_set W2 kb 4 v2) (.inr (fun e => by have := (ho.lt _ e).1; omega))
  · rcases hw k e with e2 | e2
    · exact h.apart k hk e2
    · have := (h.owa.lt k hk).2; omega
  · have hs := hg.size
    refine h.below.trans ⟨hg.os, hg.tape, hg.output, by simpa [World.setCell] using hs, fun k hk => ?_⟩
    rw [hset _ (by omega), hkeep _ (by omega) (by omega)]
end
end Go.Proofs.YtkocekogkpemiaaDoor.Ed
