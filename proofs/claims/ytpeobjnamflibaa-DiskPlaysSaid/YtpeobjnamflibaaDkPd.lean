/-
  Both disks held against one another: Same. Conditions: as each theorem states.
-/
import Derived.Test.YtpeobjnamflibaaDkPc
namespace Go.Proofs.Ytpeobjnamflibaa.Dk
open Go.RowKit Go.Maps
section
variable {w w2 : World} {d m q : Nat} {v : Value} {L : List Ent} {R : List RFile} {S : Sta} {n : Int}
theorem list_two (h : DA w d m L S) (hR : R.map rk = S.T) :
    Calls Try.prog 27 #[.pointer (some ⟨d, 0, none⟩)] w fun r w' => ∃ v', r = .returned v' ∧ w'.ownsRow w.heap.size 9 1 v' (listI R).length (sv (listI R)) ∧ Below w.heap.size w w' := by
  obtain ⟨D, ho, hM⟩ := h.1.map
  have hsz : Maps.size D ≤ 200 := by rw [hM.size]; exact h.1.few
  refine (list_any h.1.disk ho (by unfold maxLen; omega) (by omega)).mono ?_
  rintro r w' ⟨v, ss, rfl, hp, hrow, _, hb⟩
  have hn : L.map Ent.name = R.map (fun f => f.name.data.toList) := by
    have := congrArg (List.map (fun t : Tri => t.1)) (h.2.trans hR.symm)
    rwa [List.map_map, List.map_map] at this
  have hq : ss.Perm (R.map (fun f => f.name.data.toList)) := by rw [← hn]; exact hp.trans (names_perm h.1 ho hM).symm
  have hs : (ss.mergeSort (fun x y => decide (x ≤ y))) = (listI R).map tl := by
    refine names_eq ?_ ((List.mergeSort_perm _ _).trans hq)
    have := List.pairwise_mergeSort (le := fun x y : List UInt8 => decide (x ≤ y)) (fun a b c hab hbc => by simpa using List.le_trans (by simpa using hab) (by simpa using hbc)) (fun a b => by simpa using List.le_total a b) ss
    exact this.imp (fun hab => by simpa using hab)
  have hl : ss.length = (listI R).length := by
    have := congrArg List.length hs
    rw [List.length_mergeSort, List.length_map] at this
    exact this
  have hv : ((ss.mergeSort (fun x y => decide (x ≤ y))).map encStr) = sv (listI R) := by
    rw [hs]
    unfold sv
    rw [List.map_map]
    exact List.map_congr_left (fun x _ => by simp [encStr, tl])
  rw [hl, hv] at hrow
  exact ⟨v, rfl, hrow, hb⟩
/-- both disks in one world, both in this state -/
structure Bo (w : World) (d m : Nat) (L : List Ent) (q : Nat) (v : Value) (R : List RFile) (S : Sta) : Prop where
  pa : Pa w d m L q v R S.room S.steps S.fuse S.fault S.down S.room S.steps S.fuse S.fault S.down
  hL : L.map ek = S.T
  hR : R.map rk = S.T
theorem Bo.below (h : Bo w d m L q v R S) (hb : Below w.heap.size w w2) : Bo w2 d m L q v R S := ⟨pa_below h.pa hb, h.hL, h.hR⟩
theorem Bo.da (h : Bo w d m L q v R S) : DA w d m L S := ⟨h.pa.dk, h.hL⟩
theorem Bo.ra (h : Bo w d m L q v R S) : RA w q v R S := ⟨h.pa.rf, h.hR⟩
theorem rows_equal {x y : Value} {l : List ByteArray} {b1 b2 : Nat} (hx : w.ownsRow b1 9 1 x l.length (sv l)) (hy : w.ownsRow b2 9 1 y l.length (sv l)) (hl : l.length ≤ 9223372036854775807) :
    Calls Try.prog 28 #[x, y] w fun e w' => e = .returned (.bool true) ∧ Below w.heap.size w w' := by
  rcases hx.2 with ⟨rfl, hn⟩ | ⟨g, cap, cur, rfl, _, hh, _, _, _, hcur⟩
  · obtain ⟨a, c, rfl⟩ := row_slice hy
    rw [hn]
    exact (Try.slices_Equal_string_empty _ _ _ _ _ _ (by omega)).mono (fun _ _ ⟨e, hw⟩ => ⟨e, hw ▸ Below.refl _ _⟩)
  · rcases hy.2 with ⟨rfl, hn⟩ | ⟨g2, cap2, cur2, rfl, _, hh2, _, _, _, hcur2⟩
    · rw [hn]
      exact (Try.slices_Equal_string_empty _ _ _ _ _ _ (by omega)).mono (fun _ _ ⟨e, hw⟩ => ⟨e, hw ▸ Below.refl _ _⟩)
    · have cell : ∀ {g cap : Nat} {b : Nat}, w.ownsRow b 9 1 (.slice (some ⟨g, 0, none⟩) l.length cap) l.length (sv l) → ∀ j, j < l.length → w.cell? ⟨g, 0 + j, none⟩ = some (.string (l.getD j ByteArray.empty)) := by
        intro g cap b hr j hj
        have hc := hr.cells (g := g) rfl j (.string l[j]) (by simp [sv, hj])
        rw [List.getD_eq_getElem?_getD, List.getElem?_eq_getElem hj]
        by_cases h0 : j = 0
        · subst h0; simpa [Addr.add] using hc
        · simpa [Addr.add, h0] using hc
      refine (Try.slices_Equal_string g 0 l.length cap g2 0 l.length cap2 l l w (Nat.le_refl _) (Nat.le_refl _) hl hl (cell hx) (cell hy)).mono ?_
      rintro e w' ⟨rfl, k, rfl⟩
      exact ⟨by simp, below_drewN (Below.refl _ _) k⟩
end
end Go.Proofs.Ytpeobjnamflibaa.Dk
