/-
  The document's own edits, walked: what its Parse has in memory; a level, a count. Conditions: as each theorem states.
-/
import Derived.Test.YtomokbcamfmfcaaDoorEdR
import Derived.Test.YtomokbcamfmfcaaDoorEdW
import Derived.Test.YtomokbcamfmfcaaDoorEdH
namespace Go.Proofs.YtomokbcamfmfcaaDoor.Ed.Q
open Go.RowKit
open Go.Proofs.YtomokbcamfmfcaaDoor
open Vi Ba

abbrev Rd (W : World) (a : Nat) (s : ByteArray) (p : Pt) : Prop := RdAt 90 W a s p.1 p.2
abbrev RdP (w : World) (a : Nat) (s : ByteArray) (v : Value) (p : Pt) (e : Ending) (w' : World) : Prop := e = .returned v ∧ Rd w' a s p ∧ w.grownBy w' (some a)
theorem num_rd {w : World} {a : Nat} {s : ByteArray} {p : Pt} (h : Rd w a s p) (hs : s.size ≤ 1000000) (ha : p.1 ≤ s.size) :
    Calls Tryd.prog 38 #[.pointer (some ⟨a, 0, none⟩)] w (RdP w a s (.int .u64 (nx s.data.toList p).1) (nx s.data.toList p).2) := qnum_any h hs ha
theorem text_rd {w : World} {a : Nat} {s : ByteArray} {p : Pt} (h : Rd w a s p) (hs : s.size ≤ 1000000) (ha : p.1 ≤ s.size) :
    Calls Tryd.prog 41 #[.pointer (some ⟨a, 0, none⟩), .int .i64 200] w (RdP w a s (.string (bs (tx s.data.toList p).1)) (tx s.data.toList p).2) := qtext_any 200 (by decide) h hs ha
theorem dFail_at (x : Nat) (y e : Int) : (dFail x y e).1 = x := by
  by_cases h : y = 0
  · subst h; rw [dFail_ok]
  · rw [dFail_bad h]
theorem rdC_lt (L : List UInt8) (p : Pt) : (rdC L p).1 < 18446744073709551616 := by
  unfold rdC; split <;> exact nx_lt L p
theorem rdC_at {L : List UInt8} {p : Pt} (h : p.1 ≤ L.length) : (rdC L p).2.1 ≤ L.length := by
  unfold rdC; split
  · rw [dFail_at]; exact nx_at h
  · exact nx_at h
theorem rdC_few (L : List UInt8) (p : Pt) : (rdC L p).1 ≤ 200 ∨ ¬ (rdC L p).2.2 = 0 := by
  unfold rdC; split
  · right
    by_cases h3 : (nx L p).2.2 = 0
    · rw [h3, dFail_ok]; simp
    · rw [dFail_bad h3]; exact h3
  · left; omega
theorem count_rd {w : World} {a : Nat} {s : ByteArray} {p : Pt} (h : Rd w a s p) (hs : s.size ≤ 1000000) (ha : p.1 ≤ s.size) :
    Calls Tryd.prog 39 #[.pointer (some ⟨a, 0, none⟩)] w (RdP w a s (.int .u64 (rdC s.data.toList p).1) (rdC s.data.toList p).2) := by
  have HN := Lib.hid (num_rd h hs ha)
  have hlt := nx_lt s.data.toList p
  by_cases h2 : 200 < (nx s.data.toList p).1
  · have e : rdC s.data.toList p = ((nx s.data.toList p).1, dFail (nx s.data.toList p).2.1 (nx s.data.toList p).2.2 6) := if_pos h2
    rw [e]
    have HF := Lib.hid fun (W : World) (h : Rd W a s (nx s.data.toList p).2) => qfail_any 6 h
    clear h e
    generalize nx s.data.toList p = q at *
    obtain ⟨n, q⟩ := q
    simp only at *
    go_enter Tryd.func39, Tryd.ntmps39
    go_wp2_with (first
      | (go_at_call 38; (with_reducible refine HN.out.mono ?_); rintro e w2 ⟨rfl, h2, g2⟩; have R2 := Lib.hid (And.intro h2 g2); clear h2 g2)
      | (go_at_call 58; (with_reducible refine (HF.out _ R2.out.1).mono ?_); rintro e w3 ⟨rfl, h3, g3⟩))
    go_ret
    exact ⟨rfl, h3, R2.out.2.trans g3⟩
  · have e : rdC s.data.toList p = nx s.data.toList p := if_neg h2
    rw [e]
    clear h e
    generalize nx s.data.toList p = q at *
    obtain ⟨n, q⟩ := q
    simp only at *
    go_enter Tryd.func39, Tryd.ntmps39
    go_wp2_with (go_at_call 38; (with_reducible refine HN.out.mono ?_); rintro e w2 ⟨rfl, h2, g2⟩)
    go_ret
    exact ⟨rfl, h2, g2⟩
theorem level_rd {w : World} {a : Nat} {s : ByteArray} {p : Pt} (h : Rd w a s p) (hs : s.size ≤ 1000000) (ha : p.1 ≤ s.size) :
    Calls Tryd.prog 40 #[.pointer (some ⟨a, 0, none⟩)] w (RdP w a s (.int .i64 (rdV s.data.toList p).1) (rdV s.data.toList p).2) := by
  have HN := Lib.hid (num_rd h hs ha)
  have hlt := nx_lt s.data.toList p
  by_cases h2 : 4 ≤ (nx s.data.toList p).1
  · have e : rdV s.data.toList p = (0, dFail (nx s.data.toList p).2.1 (nx s.data.toList p).2.2 21) := if_pos h2
    rw [e]
    have HF := Lib.hid fun (W : World) (h : Rd W a s (nx s.data.toList p).2) => qfail_any 21 h
    clear h e
    generalize nx s.data.toList p = q at *
    obtain ⟨n, q⟩ := q
    simp only at *
    go_enter Tryd.func40, Tryd.ntmps40
    go_wp2_with (first
      | (go_at_call 38; (with_reducible refine HN.out.mono ?_); rintro e w2 ⟨rfl, h2, g2⟩; have R2 := Lib.hid (And.intro h2 g2); clear h2 g2)
      | (go_at_call 58; (with_reducible refine (HF.out _ R2.out.1).mono ?_); rintro e w3 ⟨rfl, h3, g3⟩))
    go_ret
    exact ⟨rfl, h3, R2.out.2.trans g3⟩
  · have e : rdV s.data.toList p = nx s.data.toList p := if_neg h2
    rw [e]
    clear h e
    generalize nx s.data.toList p = q at *
    obtain ⟨n, q⟩ := q
    simp only at *
    go_enter Tryd.func40, Tryd.ntmps40
    go_wp2_with (go_at_call 38; (with_reducible refine HN.out.mono ?_); rintro e w2 ⟨rfl, h2, g2⟩)
    go_ret
    exact ⟨rfl, h2, g2⟩
theorem infoAt : (Tryd.prog.info? 85).map (fun i => (i.zero, i.size, i.bytes)) = some (some (.agg #[.int .i64 0, .int .u64 0, .int .u64 0, .int .u64 0, .string ⟨#[]⟩, .string ⟨#[]⟩]), 6, 64) := by kernel_rfl
theorem infoGone : (Tryd.prog.info? 86).map (fun i => (i.zero, i.size, i.bytes)) = some (some (.agg #[.int .i64 0, .int .u64 0]), 2, 16) := by kernel_rfl
theorem arow_of_owns {w : World} {B : Nat} {v : Value} {l : List Fil} (h : w.ownsRow B 85 6 v l.length (aCells l)) :
    ∃ A c, v = .slice A l.length c ∧ ARow w A l := by
  have hc := fun g hg => h.cells (g := g) hg
  rcases h.2 with ⟨rfl, h0⟩ | ⟨g, cap, cur, rfl, hb, hg, _⟩
  · exact ⟨none, 0, by rw [h0], fun h1 => by omega⟩
  · refine ⟨some ⟨g, 0, none⟩, cap, rfl, fun _ => ⟨_, rfl, (Array.getElem?_eq_some_iff.1 hg).1, fun i hi => ?_⟩⟩
    have hk : ∀ r u, r < 6 → l[i].cells[r]? = some u → w.cell? ⟨g, i * 6 + r, none⟩ = some u := fun r u hr hu => by
      have := hc g rfl (i * 6 + r) u (by rw [aflat_at l i hi r hr]; exact hu)
      rwa [add_flat] at this
    rw [add_flat]
    exact ⟨hk 0 _ (by decide) rfl, hk 1 _ (by decide) rfl, hk 2 _ (by decide) rfl, hk 3 _ (by decide) rfl, hk 4 _ (by decide) rfl, hk 5 _ (by decide) rfl⟩
theorem grow_of_owns {w : World} {B : Nat} {v : Value} {l : List Gon} (h : w.ownsRow B 86 2 v l.length (gCells l)) :
    ∃ A c, v = .slice A l.length c ∧ GRow w A l := by
  have hc := fun g hg => h.cells (g := g) hg
  rcases h.2 with ⟨rfl, h0⟩ | ⟨g, cap, cur, rfl, hb, hg, _⟩
  · exact ⟨none, 0, by rw [h0], fun h1 => by omega⟩
  · refine ⟨some ⟨g, 0, none⟩, cap, rfl, fun _ => ⟨_, rfl, (Array.getElem?_eq_some_iff.1 hg).1, fun i hi => ?_⟩⟩
    have hk : ∀ r u, r < 2 → l[i].cells[r]? = some u → w.cell? ⟨g, i * 2 + r, none⟩ = some u := fun r u hr hu => by
      have := hc g rfl (i * 2 + r) u (by rw [gflat_at l i hi r hr]; exact hu)
      rwa [add_flat] at this
    rw [add_flat]
    exact ⟨hk 0 _ (by decide) rfl, hk 1 _ (by decide) rfl⟩
/-- Parse under way: the answer's box, the reader, the edit's box, its rows -/
structure PE (w : World) (s : ByteArray) (kb : Nat) (x y z : Nat) (va vg : Value) (la : List Fil) (lg : List Gon) (p : Pt) (W : World) : Prop where
  rd : Rd W (w.heap.size + 1) s p
  box : W.heap[w.heap.size]? = some (.cells #[.int .u64 0, .int .u64 0, .int .u64 0, .slice none 0 0, .slice none 0 0] 44 (0, 0))
  b : W.heap[kb]? = some (.cells #[.int .u64 x, .int .u64 y, .int .u64 z, va, vg] 44 (0, 0))
  owa : W.ownsRow (kb + 1) 85 6 va la.length (aCells la)
  owg : W.ownsRow (kb + 1) 86 2 vg lg.length (gCells lg)
  apart : ∀ k, va.ownBlock = some k → vg.ownBlock ≠ some k
  below : Below w.heap.size w W
  far : w.heap.size + 1 < kb
section
variable {w : World} {s : ByteArray} {kb x y z : Nat} {va vg : Value} {la : List Fil} {lg : List Gon} {p q : Pt} {W W' : World}
theorem PE.size (h : PE w s kb x y z va vg la lg p W) : kb < W.heap.size := (Array.getElem?_eq_some_iff.1 h.b).1
theorem PE.afar (h : PE w s kb x y z va vg la lg p W) : ∀ k, va.ownBlock = some k → kb < k := fun k hk => by have := (h.owa.lt k hk).1; omega
theorem PE.gfar (h : PE w s kb x y z va vg la lg p W) : ∀ k, vg.ownBlock = some k → kb < k := fun k hk => by have := (h.owg.lt k hk).1; omega
theorem pe_grown (h : PE w s kb x y z va vg la lg p W) (hr : Rd W' (w.heap.size + 1) s q) (hg : W.grownBy W' (some (w.heap.size + 1))) : PE w s kb x y z va vg la lg q W' :=
  have hz := h.size
  have hf := h.far
  ⟨hr, (hg.block _ (by omega) (fun e => by injection e with e; omega)).trans h.box, (hg.block _ (by omega) (fun e => by injection e with e; omega)).trans h.b,
    h.owa.kept hg (.inr (fun e => by have := h.afar _ e; omega)), h.owg.kept hg (.inr (fun e => by have := h.gfar _ e; omega)), h.apart,
    h.below.trans ⟨hg.os, hg.tape, hg.output, hg.size, fun k hk => hg.block k (by omega) (fun e => by injection e with e; omega)⟩, h.far⟩
theorem pe_below (h : PE w s kb x y z va vg la lg p W) (hb : Below W.heap.size W W') : PE w s kb x y z va vg la lg p W' := by
  refine pe_grown h ?_ (grown_below hb _)
  unfold Rd RdAt; rw [hb.block _ (rd_lt h.rd)]; exact h.rd
theorem pe_alloc (h : PE w s kb x y z va vg la lg p W) (o : Obj) : PE w s kb x y z va vg la lg p (W.alloc o) := pe_below h ((Below.refl _ _).alloc (Nat.le_refl _) _)
theorem pe_drewN (h : PE w s kb x y z va vg la lg p W) (k : Nat) : PE w s kb x y z va vg la lg p (W.drewN k) := pe_below h ⟨rfl, rfl, rfl, Nat.le_refl _, fun _ _ => rfl⟩
theorem pe_drew (h : PE w s kb x y z va vg la lg p W) : PE w s kb x y z va vg la lg p W.drew := ⟨h.rd, h.box, h.b, h.owa, h.owg, h.apart, h.below.drew, h.far⟩
theorem pe_cells (h : PE w s kb x y z va vg la lg p W) : (W.cell? ⟨kb, 0, none⟩ = some (.int .u64 x) ∧ W.cell? ⟨kb, 1, none⟩ = some (.int .u64 y) ∧ W.cell? ⟨kb, 2, none⟩ = some (.int .u64 z) ∧ W.cell? ⟨kb, 3, none⟩ = some va ∧ W.cell? ⟨kb, 4, none⟩ = some vg) ∧ ∀ j, W.frozen? ⟨kb, j, none⟩ = false := cells5 h.b
theorem pe_box (h : PE w s kb x y z va vg la lg p W) : (W.cell? ⟨w.heap.size, 0, none⟩ = some (.int .u64 0) ∧ W.cell? ⟨w.heap.size, 1, none⟩ = some (.int .u64 0) ∧ W.cell? ⟨w.heap.size, 2, none⟩ = some (.int .u64 0) ∧ W.cell? ⟨w.heap.size, 3, none⟩ = some (.slice none 0 0) ∧ W.cell? ⟨w.heap.size, 4, none⟩ = some (.slice none 0 0)) ∧ ∀ j, W.frozen? ⟨w.heap.size, j, none⟩ = false := cells5 h.box
/-- a row that was appended to is put into the edit's box -/
theorem pe_putA (h : PE w s kb x y z va (.slice none 0 0) la [] p W) {v2 : Value} {l2 : List Fil} {W2 : World} (hg : W.grownBy W2 va.ownBlock) (ho : W2.ownsRow (kb + 1) 85 6 v2 l2.length (aCells l2)) : PE w s kb x y z v2 (.slice none 0 0) l2 [] p (W2.setCell ⟨kb, 3, none⟩ v2) := by
  have hz := h.size
  have hf := h.far
  have hkeep : ∀ k, k ≤ kb → k < W.heap.size → W2.heap[k]? = W.heap[k]? := fun k hk hlt => hg.block k hlt (fun e => by have := h.afar _ e.symm; omega)
  have hset : ∀ k, k ≠ kb → (W2.setCell ⟨kb, 3, none⟩ v2).heap[k]? = W2.heap[k]? := fun k hk => Below.heap_setCell W2 ⟨kb, 3, none⟩ v2 k (fun e => hk (by simpa using e))
  refine ⟨?_, ?_, ?_, ?_, World.ownsRow_nil _ _ _ _, fun k _ => by simp [Value.ownBlock], ?_, hf⟩
  · unfold Rd RdAt; rw [hset _ (by omega), hkeep _ (by omega) (by omega)]; exact h.rd
  · rw [hset _ (by omega), hkeep _ (by omega) (by omega)]; exact h.box
  · exact heap_set ((hkeep kb (Nat.le_refl _) hz).trans h.b) 3 v2
  · exact ho.kept (grown_set W2 kb 3 v2) (.inr (fun e => by have := (ho.lt _ e).1; omega))
  · have hs := hg.size
    refine h.below.trans ⟨hg.os, hg.tape, hg.output, by simpa [World.setCell] using hs, fun k hk => ?_⟩
    rw [hset _ (by omega), hkeep _ (by omega) (by omega)]
theorem pe_putG (h : PE w s kb x y z va vg la lg p W) {v2 : Value} {l2 : List Gon} {W2 : World} (hg : W.grownBy W2 vg.ownBlock) (ho : W2.ownsRow (kb + 1) 86 2 v2 l2.length (gCells l2)) (hw : ∀ k, v2.ownBlock = some k → vg.ownBlock = some k ∨ W.heap.size ≤ k) : PE w s kb x y z va v2 la l2 p (W2.setCell ⟨kb, 4, none⟩ v2) := by
  have hz := h.size
  have hf := h.far
  have hkeep : ∀ k, k ≤ kb → k < W.heap.size → W2.heap[k]? = W.heap[k]? := fun k hk hlt => hg.block k hlt (fun e => by have := h.gfar _ e.symm; omega)
  have hset : ∀ k, k ≠ kb → (W2.setCell ⟨kb, 4, none⟩ v2).heap[k]? = W2.heap[k]? := fun k hk => Below.heap_setCell W2 ⟨kb, 4, none⟩ v2 k (fun e => hk (by simpa using e))
  have hA : W2.ownsRow (kb + 1) 85 6 va la.length (aCells la) := by
    cases hv : vg.ownBlock with
    | none => rw [hv] at hg; exact h.owa.kept hg (Classical.em _)
    | some k => rw [hv] at hg; exact h.owa.kept hg (.inr fun e => h.apart k e hv)
  refine ⟨?_, ?_, ?_, ?_, ?_, fun k hk e => ?_, ?_, hf⟩
  · unfold Rd RdAt; rw [hset _ (by omega), hkeep _ (by omega) (by omega)]; exact h.rd
  · rw [hset _ (by omega), hkeep _ (by omega) (by omega)]; exact h.box
  · exact heap_set ((hkeep kb (Nat.le_refl _) hz).trans h.b) 4 v2
  · exact hA.kept (grown_set W2 kb 4 v2) (.inr (fun e => by have := (hA.lt _ e).1; omega))
  · exact ho.kept (grown_set W2 kb 4 v2) (.inr (fun e => by have := (ho.lt _ e).1; omega))
  · rcases hw k e with e2 | e2
    · exact h.apart k hk e2
    · have := (h.owa.lt k hk).2; omega
  · have hs := hg.size
    refine h.below.trans ⟨hg.os, hg.tape, hg.output, by simpa [World.setCell] using hs, fun k hk => ?_⟩
    rw [hset _ (by omega), hkeep _ (by omega) (by omega)]
end
section
variable {w : World} {s : ByteArray} {kb x y z : Nat} {va vg : Value} {la : List Fil} {lg : List Gon} {p q : Pt} {W W' : World}
theorem pe_rd2 (h : PE w s kb x y z va vg la lg p W) : W.cell? ⟨w.heap.size + 1, 2, none⟩ = some (.int .i64 p.2) := rd2 h.rd
/-- a cell of a block that is none of what Parse has is written -/
theorem pe_free (h : PE w s kb x y z va vg la lg p W) {k0 : Nat} (hk : kb < k0) (ha : va.ownBlock ≠ some k0) (hg : vg.ownBlock ≠ some k0) (j : Nat) (v : Value) : PE w s kb x y z va vg la lg p (W.setCell ⟨k0, j, none⟩ v) := by
  have hf := h.far
  have e : ∀ k, k ≠ k0 → (W.setCell ⟨k0, j, none⟩ v).heap[k]? = W.heap[k]? := fun k hk => Below.heap_setCell W ⟨k0, j, none⟩ v k (fun e => hk (by simpa using e))
  refine ⟨?_, ?_, ?_, h.owa.kept (grown_set W k0 j v) (.inr ha), h.owg.kept (grown_set W k0 j v) (.inr hg), h.apart, h.below.setCell (by simp; omega) v, hf⟩
  · unfold Rd RdAt; rw [e _ (by omega)]; exact h.rd
  · rw [e _ (by omega)]; exact h.box
  · rw [e _ (by omega)]; exact h.b
theorem pe_set (h : PE w s kb x y z va vg la lg p W) (j : Nat) (v : Value) {x' y' z' : Nat} (hb : (W.setCell ⟨kb, j, none⟩ v).heap[kb]? = some (.cells #[.int .u64 x', .int .u64 y', .int .u64 z', va, vg] 44 (0, 0))) : PE w s kb x' y' z' va vg la lg p (W.setCell ⟨kb, j, none⟩ v) := by
  have hf := h.far
  have e : ∀ k, k ≠ kb → (W.setCell ⟨kb, j, none⟩ v).heap[k]? = W.heap[k]? := fun k hk => Below.heap_setCell W ⟨kb, j, none⟩ v k (fun e => hk (by simpa using e))
  refine ⟨?_, ?_, hb, h.owa.kept (grown_set W kb j v) (.inr fun e => by have := h.afar _ e; omega), h.owg.kept (grown_set W kb j v) (.inr fun e => by have := h.gfar _ e; omega), h.apart, h.below.setCell (by simp; omega) v, hf⟩
  · unfold Rd RdAt; rw [e _ (by omega)]; exact h.rd
  · rw [e _ (by omega)]; exact h.box
theorem pe_set0 (h : PE w s kb x y z va vg la lg p W) (n : Nat) : PE w s kb n y z va vg la lg p (W.setCell ⟨kb, 0, none⟩ (.int .u64 n)) := pe_set h 0 _ (heap_set h.b 0 _)
theorem pe_set1 (h : PE w s kb x y z va vg la lg p W) (n : Nat) : PE w s kb x n z va vg la lg p (W.setCell ⟨kb, 1, none⟩ (.int .u64 n)) := pe_set h 1 _ (heap_set h.b 1 _)
theorem pe_set2 (h : PE w s kb x y z va vg la lg p W) (n : Nat) : PE w s kb x y n va vg la lg p (W.setCell ⟨kb, 2, none⟩ (.int .u64 n)) := pe_set h 2 _ (heap_set h.b 2 _)
/-- Parse under way, with the box of one that is being read -/
structure PB (w : World) (s : ByteArray) (kb : Nat) (x y z : Nat) (va vg : Value) (la : List Fil) (lg : List Gon) (k0 : Nat) (c : Array Value) (t : TypeId) (p : Pt) (W : World) : Prop where
  pe : PE w s kb x y z va vg la lg p W
  ab : W.heap[k0]? = some (.cells c t (0, 0))
  ka : va.ownBlock ≠ some k0
  kg : vg.ownBlock ≠ some k0
  kk : kb < k0
variable {k0 : Nat} {c : Array Value} {t : TypeId}
theorem pb_start (h : PE w s kb x y z va vg la lg p W) (c : Array Value) (t : TypeId) : PB w s kb x y z va vg la lg W.heap.size c t p (W.alloc (.cells c t (0, 0))) :=
  ⟨pe_alloc h _, heap_alloc_new _ _, fun e => by have := (h.owa.lt _ e).2; omega, fun e => by have := (h.owg.lt _ e).2; omega, h.size⟩
theorem pb_post (h : PB w s kb x y z va vg la lg k0 c t p W) (hr : Rd W' (w.heap.size + 1) s q) (hg : W.grownBy W' (some (w.heap.size + 1))) : PB w s kb x y z va vg la lg k0 c t q W' :=
  have hz := (Array.getElem?_eq_some_iff.1 h.ab).1
  have hf := h.pe.far
  have hk := h.kk
  ⟨pe_grown h.pe hr hg, (hg.block _ hz (fun e => by injection e with e; omega)).trans h.ab, h.ka, h.kg, h.kk⟩
theorem pb_set (h : PB w s kb x y z va vg la lg k0 c t p W) (j : Nat) (v : Value) : PB w s kb x y z va vg la lg k0 (c.setIfInBounds j v) t p (W.setCell ⟨k0, j, none⟩ v) :=
  ⟨pe_free h.pe h.kk h.ka h.kg j v, heap_set h.ab j v, h.ka, h.kg, h.kk⟩
theorem pb_drew (h : PB w s kb x y z va vg la lg k0 c t p W) : PB w s kb x y z va vg la lg k0 c t p W.drew := ⟨pe_drew h.pe, h.ab, h.ka, h.kg, h.kk⟩
theorem pb_size (h : PB w s kb x y z va vg la lg k0 c t p W) : k0 < W.heap.size := (Array.getElem?_eq_some_iff.1 h.ab).1
end
end Go.Proofs.YtomokbcamfmfcaaDoor.Ed.Q
