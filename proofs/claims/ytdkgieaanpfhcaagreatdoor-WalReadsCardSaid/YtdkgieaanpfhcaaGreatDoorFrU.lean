/-
  How the document reads a log, against how a log is read: mathematics. No condition but those that each theorem states.
-/
import Derived.Test.YtdkgieaanpfhcaaGreatDoorFrH
namespace Go.Proofs.YtdkgieaanpfhcaaGreatDoor
open Vi

theorem gap_step {p : Nat} (h : 0 < gapOf p) : gapOf p = gapOf (p + 1) + 1 ∧ roomOf p = 505 ∧ roomOf (p + 1) = 505 := by
  unfold gapOf roomOf at *
  by_cases h1 : 512 - p % 512 < 7
  · rw [if_pos h1] at h ⊢
    rw [if_pos h1]
    by_cases h2 : 512 - (p + 1) % 512 < 7
    · rw [if_pos h2, if_pos h2]; omega
    · rw [if_neg h2, if_neg h2]; omega
  · rw [if_neg h1] at h; omega
theorem pread_step {L : List UInt8} {p : Nat} (hg : 0 < gapOf p) (hp : p < L.length) (h0 : L[p] = 0) : pread L p = pread L (p + 1) := by
  obtain ⟨h1, h2, h3⟩ := gap_step hg
  unfold pread
  rw [h1, h2, h3, List.drop_eq_getElem_cons hp, h0, List.replicate_succ]
  have e : Lib.hasPrefix ((0 : UInt8) :: L.drop (p + 1)) (0 :: List.replicate (gapOf (p + 1)) 0) = Lib.hasPrefix (L.drop (p + 1)) (List.replicate (gapOf (p + 1)) 0) := by
    simp [Lib.hasPrefix]
  rw [e, show p + (gapOf (p + 1) + 1) = p + 1 + gapOf (p + 1) by omega]
theorem pread_stop {L : List UInt8} {p : Nat} (hg : 0 < gapOf p) (h : ∀ hp : p < L.length, L[p] ≠ 0) : pread L p = none := by
  obtain ⟨h1, _, _⟩ := gap_step hg
  unfold pread
  rw [if_neg]
  rw [h1, List.replicate_succ]
  by_cases hp : p < L.length
  · rw [List.drop_eq_getElem_cons hp]
    intro e
    have : (L[p] :: L.drop (p + 1)) = (0 : UInt8) :: (L.drop (p + 1)) := by
      have h' := List.isPrefixOf_iff_prefix.1 e
      obtain ⟨r, hr⟩ := h'
      injection hr with e1 e2
      rw [e1]
    injection this with e1 _
    exact h hp e1
  · rw [List.drop_eq_nil_of_le (by omega)]
    intro e
    have h' := (List.isPrefixOf_iff_prefix.1 e).length_le
    simp at h'
theorem pread_zero {L : List UInt8} {p : Nat} (hg : gapOf p = 0) : pread L p = preadV p ((L.drop p).take (7 + roomOf p)) := by
  unfold pread
  rw [hg]
  simp [Lib.hasPrefix]
theorem preadV_less {q : Nat} {V : List UInt8} (h : V.length < 7) : preadV q V = none := by
  by_cases h6 : V.length < 6
  · exact preadV_short h6
  · obtain ⟨s0, s1, s2, s3, c, d, S, rfl⟩ := six_of V h6
    rw [preadV, if_neg]
    simp at h
    omega
theorem pread_short {L : List UInt8} {p : Nat} (hg : gapOf p = 0) (h : L.length < p + 7) : pread L p = none := by
  rw [pread_zero hg]
  exact preadV_less (by rw [List.length_take, List.length_drop]; omega)
theorem seven_of (L : List UInt8) (h : 7 ≤ L.length) : ∃ s0 s1 s2 s3 c d k R, L = s0 :: s1 :: s2 :: s3 :: c :: d :: k :: R := by
  match L, h with
  | s0 :: s1 :: s2 :: s3 :: c :: d :: k :: R, _ => exact ⟨s0, s1, s2, s3, c, d, k, R, rfl⟩
/-- What the document asks of a piece at a place where one can stand. -/
theorem pread_at {L : List UInt8} {p : Nat} (hg : gapOf p = 0) (h7 : p + 7 ≤ L.length) :
    ∃ (s0 s1 s2 s3 c d k : UInt8) (R : List UInt8), L.drop p = s0 :: s1 :: s2 :: s3 :: c :: d :: k :: R ∧
      pread L p = if (c.toNat + 256 * d.toNat ≤ roomOf p ∧ c.toNat + 256 * d.toNat ≤ R.length) ∧ Crc.mask (Crc.ofL (k :: R.take (c.toNat + 256 * d.toNat))) = big [s0, s1, s2, s3] ∧ 1 ≤ k.toNat ∧ k.toNat ≤ 4 then some (k.toNat, R.take (c.toNat + 256 * d.toNat), p + 7 + (c.toNat + 256 * d.toNat)) else none := by
  obtain ⟨s0, s1, s2, s3, c, d, k, R, hL⟩ := seven_of (L.drop p) (by rw [List.length_drop]; omega)
  refine ⟨s0, s1, s2, s3, c, d, k, R, hL, ?_⟩
  rw [pread_zero hg, hL, show 7 + roomOf p = (roomOf p) + 1 + 1 + 1 + 1 + 1 + 1 + 1 by omega]
  simp only [List.take_succ_cons]
  rw [preadV]
  have e1 : 1 + c.toNat + d.toNat * 256 = (c.toNat + 256 * d.toNat) + 1 := by omega
  rw [e1]
  by_cases hn : c.toNat + 256 * d.toNat ≤ roomOf p ∧ c.toNat + 256 * d.toNat ≤ R.length
  · rw [if_pos (by simp only [List.length_cons, List.length_take]; omega)]
    simp only [List.take_succ_cons, List.take_take]
    rw [Nat.min_eq_left hn.1]
    have e2 : p + (7 + c.toNat + d.toNat * 256) = p + 7 + (c.toNat + 256 * d.toNat) := by omega
    rw [e2]
    by_cases hc : Crc.mask (Crc.ofL (k :: R.take (c.toNat + 256 * d.toNat))) = big [s0, s1, s2, s3] ∧ 1 ≤ k.toNat ∧ k.toNat ≤ 4
    · rw [if_pos hc, if_pos ⟨hn, hc⟩]
    · rw [if_neg hc, if_neg (fun h => hc h.2)]
  · rw [if_neg (by simp only [List.length_cons, List.length_take]; omega), if_neg (fun h => hn h.1)]
/-- The records from within one on. -/
def rest (L : List UInt8) (b : Bool) (p : Nat) (acc : List UInt8) : List RecX :=
  match recGo L b p acc with
  | none => []
  | some (s, q) => (s, q) :: recs L q
theorem rest_start (L : List UInt8) (p : Nat) : rest L false p [] = recs L p := by
  unfold rest
  cases h : recGo L false p [] with
  | none => exact (recs_none h).symm
  | some x => exact (recs_some h).symm
theorem rest_none {L : List UInt8} {b : Bool} {p : Nat} {acc : List UInt8} (h : pread L p = none) : rest L b p acc = [] := by
  unfold rest; rw [rec_none h]
theorem rec_same {L : List UInt8} {b : Bool} {p q : Nat} {acc : List UInt8} (hp : p ≤ L.length) (hq : q ≤ L.length) (h : pread L p = pread L q) : recGo L b p acc = recGo L b q acc := by
  cases e : pread L p with
  | none => rw [rec_none e, rec_none (h ▸ e)]
  | some x =>
    obtain ⟨k, T, r⟩ := x
    rw [rec_some hp e, rec_some hq (h ▸ e)]
theorem rest_same {L : List UInt8} {b : Bool} {p q : Nat} {acc : List UInt8} (hp : p ≤ L.length) (hq : q ≤ L.length) (h : pread L p = pread L q) : rest L b p acc = rest L b q acc := by
  unfold rest; rw [rec_same hp hq h]
theorem rest_off {L : List UInt8} {b : Bool} {p k q : Nat} {T acc : List UInt8} (hp : p ≤ L.length) (h : pread L p = some (k, T, q)) (hb : ¬ (decide (k = 3) || decide (k = 4)) = b) : rest L b p acc = [] := by
  unfold rest; rw [rec_some hp h, if_neg hb]
theorem rest_ends {L : List UInt8} {b : Bool} {p k q : Nat} {T acc : List UInt8} (hp : p ≤ L.length) (h : pread L p = some (k, T, q)) (hb : (decide (k = 3) || decide (k = 4)) = b) (hk : k = 1 ∨ k = 4) : rest L b p acc = (acc ++ T, q) :: rest L false q [] := by
  rw [rest_start]
  unfold rest; rw [rec_some hp h, if_pos hb, if_pos hk]
theorem rest_goes {L : List UInt8} {b : Bool} {p k q : Nat} {T acc : List UInt8} (hp : p ≤ L.length) (h : pread L p = some (k, T, q)) (hb : (decide (k = 3) || decide (k = 4)) = b) (hk : ¬ (k = 1 ∨ k = 4)) : rest L b p acc = rest L true q (acc ++ T) := by
  unfold rest; rw [rec_some hp h, if_pos hb, if_neg hk]
end Go.Proofs.YtdkgieaanpfhcaaGreatDoor
