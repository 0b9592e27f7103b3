/-
  What was laid is read as it was; what is cut isn't whole: mathematics of logs. No condition but those that each theorem states.
-/
import Derived.Test.YtdkgieaanpfhcaaGreatDoorFrH
import Derived.Test.YtdkgieaanpfhcaaGreatDoorFrD
namespace Go.Proofs.YtdkgieaanpfhcaaGreatDoor
open Vi

theorem toNat_lt256 {n : Nat} (h : n < 256) : (UInt8.ofNat n).toNat = n := toNat_of h
/-- a piece, cell by cell -/
theorem pce_form (k : Nat) (s : List UInt8) : ∃ s0 s1 s2 s3, little 4 (Crc.mask (Crc.ofL (UInt8.ofNat k :: s))) = [s0, s1, s2, s3] ∧ pce k s = s0 :: s1 :: s2 :: s3 :: UInt8.ofNat (s.length % 256) :: UInt8.ofNat (s.length / 256 % 256) :: UInt8.ofNat k :: s ∧ big [s0, s1, s2, s3] = Crc.mask (Crc.ofL (UInt8.ofNat k :: s)) := by
  have hl := little_len 4 (Crc.mask (Crc.ofL (UInt8.ofNat k :: s)))
  match hs : little 4 (Crc.mask (Crc.ofL (UInt8.ofNat k :: s))), hl with
  | [s0, s1, s2, s3], _ =>
    refine ⟨s0, s1, s2, s3, rfl, ?_, ?_⟩
    · unfold pce; rw [hs]; rfl
    · rw [← hs]; exact big_little 4 _ (Nat.lt_of_lt_of_le (Crc.mask_lt _) (by decide))
theorem lens_eq {s : List UInt8} (h : s.length ≤ 505) : (UInt8.ofNat (s.length % 256)).toNat + (UInt8.ofNat (s.length / 256 % 256)).toNat * 256 = s.length := by
  rw [toNat_lt256 (by omega), toNat_lt256 (by omega)]; omega
theorem preadV_pce {q k : Nat} {s : List UInt8} (hk1 : 1 ≤ k) (hk4 : k ≤ 4) (hs : s.length ≤ 505) (R : List UInt8) : preadV q (pce k s ++ R) = some (k, s, q + (7 + s.length)) := by
  obtain ⟨s0, s1, s2, s3, _, hp, hb⟩ := pce_form k s
  have hln := lens_eq hs
  rw [hp]
  simp only [List.cons_append]
  rw [preadV, if_pos (by simp; omega)]
  have ht : (UInt8.ofNat k :: (s ++ R)).take (1 + (UInt8.ofNat (s.length % 256)).toNat + (UInt8.ofNat (s.length / 256 % 256)).toNat * 256) = UInt8.ofNat k :: s := by
    rw [show 1 + (UInt8.ofNat (s.length % 256)).toNat + (UInt8.ofNat (s.length / 256 % 256)).toNat * 256 = s.length + 1 by omega, List.take_succ_cons, List.take_left']
    rfl
  rw [ht]
  simp only []
  have hkn : (UInt8.ofNat k).toNat = k := toNat_lt256 (by omega)
  rw [if_pos ⟨hb.symm, by omega, by omega⟩, hkn]
  congr 3
  omega
theorem preadV_cut {q k : Nat} {s : List UInt8} (hs : s.length ≤ 505) {m : Nat} (hm : m < 7 + s.length) : preadV q ((pce k s).take m) = none := by
  obtain ⟨s0, s1, s2, s3, _, hp, _⟩ := pce_form k s
  have hln := lens_eq hs
  have hpl := pce_len k s
  by_cases h6 : m < 6
  · exact preadV_short (by rw [List.length_take]; omega)
  · obtain ⟨j, rfl⟩ : ∃ j, m = j + 6 := ⟨m - 6, by omega⟩
    rw [hp]
    simp only [List.take_succ_cons]
    rw [preadV, if_neg]
    rw [List.length_take]
    simp; omega
theorem has_app (a b : List UInt8) : Lib.hasPrefix (a ++ b) a = true := List.isPrefixOf_iff_prefix.2 ⟨b, rfl⟩
theorem pread_laid {P : List UInt8} {k : Nat} {s : List UInt8} (hk1 : 1 ≤ k) (hk4 : k ≤ 4) (hs : s.length ≤ roomOf P.length) (R : List UInt8) :
    pread (P ++ (List.replicate (gapOf P.length) 0 ++ pce k s ++ R)) P.length = some (k, s, P.length + gapOf P.length + (7 + s.length)) := by
  have hr := roomOf_le P.length
  have e1 : (P ++ (List.replicate (gapOf P.length) 0 ++ pce k s ++ R)).drop P.length = List.replicate (gapOf P.length) 0 ++ pce k s ++ R := List.drop_left'  rfl
  have e2 : (P ++ (List.replicate (gapOf P.length) 0 ++ pce k s ++ R)).drop (P.length + gapOf P.length) = pce k s ++ R := by
    rw [← List.drop_drop, e1, List.append_assoc]; exact List.drop_left' (by simp)
  have e3 : Lib.hasPrefix (List.replicate (gapOf P.length) 0 ++ pce k s ++ R) (List.replicate (gapOf P.length) 0) = true := by rw [List.append_assoc]; exact has_app _ _
  unfold pread
  rw [e1, e3, if_pos rfl, e2, List.take_append, List.take_of_length_le (by rw [pce_len]; omega)]
  exact preadV_pce hk1 hk4 (by omega) _
theorem pread_cut {P : List UInt8} {k : Nat} {s : List UInt8} (hs : s.length ≤ roomOf P.length) {m : Nat} (hm : m < gapOf P.length + (7 + s.length)) :
    pread (P ++ (List.replicate (gapOf P.length) 0 ++ pce k s).take m) P.length = none := by
  have hr := roomOf_le P.length
  have e1 : (P ++ (List.replicate (gapOf P.length) 0 ++ pce k s).take m).drop P.length = (List.replicate (gapOf P.length) 0 ++ pce k s).take m := List.drop_left' rfl
  unfold pread
  rw [e1]
  by_cases hg : m < gapOf P.length
  · rw [if_neg]
    intro h
    have h' : (List.replicate (gapOf P.length) (0 : UInt8)) <+: _ := List.isPrefixOf_iff_prefix.1 h
    have := h'.length_le
    rw [List.length_replicate, List.length_take] at this
    omega
  · rw [← List.drop_drop, e1, List.take_append, List.take_of_length_le (by simp; omega), has_app, if_pos rfl, List.drop_left' (by simp), List.length_replicate, List.take_take]
    rw [show min (7 + roomOf P.length) (m - gapOf P.length) = m - gapOf P.length by omega]
    exact preadV_cut (by omega) (by omega)
theorem layAt_len_pos (p : Nat) (b : Bool) (r : List UInt8) : 7 ≤ (layAt p b r).length := by
  unfold layAt
  rw [List.length_append, layGo_len _ r b (roomOf p) (Nat.le_refl _)]
  omega
theorem kind_ends (b : Bool) : (decide (kindOf b true = 3) || decide (kindOf b true = 4)) = b ∧ (kindOf b true = 1 ∨ kindOf b true = 4) ∧ (decide (kindOf b false = 3) || decide (kindOf b false = 4)) = b ∧ ¬ (kindOf b false = 1 ∨ kindOf b false = 4) := by
  cases b <;> decide
/-- a record that was laid is read as it was -/
theorem rec_laid (n : Nat) : ∀ (r : List UInt8) (P : List UInt8) (b : Bool) (acc R : List UInt8), r.length + (if roomOf P.length = 0 then 1 else 0) ≤ n →
    recGo (P ++ (layAt P.length b r ++ R)) b P.length acc = some (acc ++ r, P.length + (layAt P.length b r).length) := by
  induction n with
  | zero =>
    intro r P b acc R h
    have h0 : r.length = 0 := by omega
    obtain ⟨k1, k2, _⟩ := kind_ends b
    have hb := kindOf_lt b true
    rw [layAt_last (by omega)]
    rw [rec_some (by simp) (pread_laid hb.1 hb.2 (by omega) R), if_pos k1, if_pos k2]
    congr 2
    simp [pce_len]; omega
  | succ n ih =>
    intro r P b acc R h
    obtain ⟨k1, k2, k3, k4⟩ := kind_ends b
    by_cases hr : r.length ≤ roomOf P.length
    · have hb := kindOf_lt b true
      rw [layAt_last hr]
      rw [rec_some (by simp) (pread_laid hb.1 hb.2 hr R), if_pos k1, if_pos k2]
      congr 2
      simp [pce_len]; omega
    · have hb := kindOf_lt b false
      have htl : (r.take (roomOf P.length)).length = roomOf P.length := by rw [List.length_take]; omega
      have hm := layAt_more (p := P.length) (b := b) (r := r) (by omega)
      have h1 := pread_laid (P := P) hb.1 hb.2 (s := r.take (roomOf P.length)) (by omega)
        (layAt (P.length + (List.replicate (gapOf P.length) (0 : UInt8) ++ pce (kindOf b false) (r.take (roomOf P.length))).length) true (r.drop (roomOf P.length)) ++ R)
      have hlen : P.length + gapOf P.length + (7 + (r.take (roomOf P.length)).length) = (P ++ (List.replicate (gapOf P.length) (0 : UInt8) ++ pce (kindOf b false) (r.take (roomOf P.length)))).length := by simp [pce_len]; omega
      have hlen2 : P.length + (List.replicate (gapOf P.length) (0 : UInt8) ++ pce (kindOf b false) (r.take (roomOf P.length))).length = (P ++ (List.replicate (gapOf P.length) (0 : UInt8) ++ pce (kindOf b false) (r.take (roomOf P.length)))).length := by simp
      have h2 := ih (r.drop (roomOf P.length)) (P ++ (List.replicate (gapOf P.length) (0 : UInt8) ++ pce (kindOf b false) (r.take (roomOf P.length)))) true (acc ++ r.take (roomOf P.length)) R (by
        have hz : (P ++ (List.replicate (gapOf P.length) (0 : UInt8) ++ pce (kindOf b false) (r.take (roomOf P.length)))).length % 512 = 0 := by
          rw [← hlen, htl]; have := next_block P.length; rw [show P.length + gapOf P.length + (7 + roomOf P.length) = P.length + gapOf P.length + 7 + roomOf P.length by omega]; exact this
        rw [room_block hz, List.length_drop]
        by_cases h0 : roomOf P.length = 0
        · simp [h0] at h ⊢; omega
        · simp [h0] at h ⊢; omega)
      rw [hm]
      rw [show P ++ (List.replicate (gapOf P.length) 0 ++ pce (kindOf b false) (r.take (roomOf P.length)) ++ layAt (P.length + (List.replicate (gapOf P.length) (0 : UInt8) ++ pce (kindOf b false) (r.take (roomOf P.length))).length) true (r.drop (roomOf P.length)) ++ R)
        = P ++ (List.replicate (gapOf P.length) 0 ++ pce (kindOf b false) (r.take (roomOf P.length)) ++ (layAt (P.length + (List.replicate (gapOf P.length) (0 : UInt8) ++ pce (kindOf b false) (r.take (roomOf P.length))).length) true (r.drop (roomOf P.length)) ++ R)) by simp]
      rw [rec_some (by simp) h1, if_pos k3, if_neg k4, hlen, hlen2]
      rw [show P ++ (List.replicate (gapOf P.length) 0 ++ pce (kindOf b false) (r.take (roomOf P.length)) ++ (layAt (P ++ (List.replicate (gapOf P.length) (0 : UInt8) ++ pce (kindOf b false) (r.take (roomOf P.length)))).length true (r.drop (roomOf P.length)) ++ R))
        = (P ++ (List.replicate (gapOf P.length) 0 ++ pce (kindOf b false) (r.take (roomOf P.length)))) ++ (layAt (P ++ (List.replicate (gapOf P.length) (0 : UInt8) ++ pce (kindOf b false) (r.take (roomOf P.length)))).length true (r.drop (roomOf P.length)) ++ R) by simp]
      rw [h2, List.append_assoc, List.take_append_drop]
      congr 2
      simp; omega
theorem rread_laid (P r R : List UInt8) : rread (P ++ (lay P.length r ++ R)) P.length = some (r, P.length + (lay P.length r).length) := by
  unfold rread
  rw [lay_layAt]
  have := rec_laid _ r P false [] R (Nat.le_refl _)
  simpa using this
theorem rread_end (L : List UInt8) : rread L L.length = none := by
  unfold rread
  refine rec_none ?_
  unfold pread
  split
  · rename_i h
    have h' : (List.replicate (gapOf L.length) (0 : UInt8)) <+: _ := List.isPrefixOf_iff_prefix.1 h
    have := h'.length_le
    rw [List.length_replicate, List.length_drop] at this
    exact preadV_short (by rw [List.length_take, List.length_drop]; omega)
  · rfl
end Go.Proofs.YtdkgieaanpfhcaaGreatDoor
