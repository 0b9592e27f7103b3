/-
  What a piece of a log is, and the Go text that reads it. Conditions: as each theorem states.
-/
import Derived.Test.YtdkgieaanpfhcaaGreatDoorFrE
namespace Go.Proofs.YtdkgieaanpfhcaaGreatDoor
open Go.RowKit
open Vi

/-- What the bytes of a piece's block, from the piece on, are. -/
def preadV (q : Nat) : List UInt8 → Option (Nat × List UInt8 × Nat)
  | s0 :: s1 :: s2 :: s3 :: c :: d :: S =>
    if 1 + c.toNat + d.toNat * 256 ≤ S.length then
      match S.take (1 + c.toNat + d.toNat * 256) with
      | k :: T => if Crc.mask (Crc.ofL (k :: T)) = big [s0, s1, s2, s3] ∧ 1 ≤ k.toNat ∧ k.toNat ≤ 4 then some (k.toNat, T, q + (7 + c.toNat + d.toNat * 256)) else none
      | [] => none
    else none
  | _ => none
def pread (L : List UInt8) (p : Nat) : Option (Nat × List UInt8 × Nat) :=
  if Lib.hasPrefix (L.drop p) (List.replicate (gapOf p) 0) = true then preadV (p + gapOf p) ((L.drop (p + gapOf p)).take (7 + roomOf p)) else none
def pval : Option (Nat × List UInt8 × Nat) → Value
  | none => .tuple #[.int .u8 0, .string ⟨#[]⟩, .int .i64 0, .bool false]
  | some (k, T, q) => .tuple #[.int .u8 k, .string (bs T), .int .i64 q, .bool true]
theorem short_err (V : List UInt8) (h : V.length < 6) : ∃ B1 a1 e1 B2 a2 e2, dTake V 0 0 4 = (B1, a1, e1) ∧ dTake V a1 e1 2 = (B2, a2, e2) ∧ a1 ≤ V.length ∧ ¬ e2 = 0 := by
  by_cases h4 : V.length < 4
  · refine ⟨[], 0, 3, [], 0, 3, dTake_short (.inr (by omega)), dTake_bad (by decide), by omega, by decide⟩
  · refine ⟨V.take 4, 4, 0, [], 4, 3, ?_, dTake_short (.inr (by omega)), by omega, by decide⟩
    have := dTake_ok (l := V) (at_ := 0) (n := 4) (by omega) (by omega)
    simpa using this
theorem prefix_len {L : List UInt8} {p g : Nat} (hp : p ≤ L.length) (h : Lib.hasPrefix (L.drop p) (List.replicate g 0) = true) : p + g ≤ L.length := by
  have h' : (List.replicate g (0 : UInt8)) <+: (L.drop p) := List.isPrefixOf_iff_prefix.1 h
  have := h'.length_le
  simp at this; omega
theorem preadV_short {q : Nat} : ∀ {V : List UInt8}, V.length < 6 → preadV q V = none
  | [], _ => rfl
  | [_], _ => rfl
  | [_, _], _ => rfl
  | [_, _, _], _ => rfl
  | [_, _, _, _], _ => rfl
  | [_, _, _, _, _], _ => rfl
  | _ :: _ :: _ :: _ :: _ :: _ :: _, h => by simp at h; omega
theorem six_of : ∀ V : List UInt8, ¬ V.length < 6 → ∃ s0 s1 s2 s3 c d S, V = s0 :: s1 :: s2 :: s3 :: c :: d :: S
  | [], h => by simp at h
  | [_], h => by simp at h
  | [_, _], h => by simp at h
  | [_, _, _], h => by simp at h
  | [_, _, _, _], h => by simp at h
  | [_, _, _, _, _], h => by simp at h
  | s0 :: s1 :: s2 :: s3 :: c :: d :: S, _ => ⟨s0, s1, s2, s3, c, d, S, rfl⟩
theorem ret_at {k a b : Int} {s : ByteArray} {t : Bool} (h : a = b) : Ending.returned (.tuple #[.int .u8 k, .string s, .int .i64 a, .bool t]) = .returned (.tuple #[.int .u8 k, .string s, .int .i64 b, .bool t]) := by rw [h]
theorem pieceAt_any (L : List UInt8) (p : Nat) (hL : L.length ≤ 1000000) (hp : p ≤ L.length) (w : World) :
    Calls Tryz.prog 95 #[.string (bs L), .int .i64 p] w fun e w' => e = .returned (pval (pread L p)) ∧ Below w.heap.size w w' := by
  by_cases hpre : Lib.hasPrefix (L.drop p) (List.replicate (gapOf p) 0) = true
  · have hpg := prefix_len hp hpre
    obtain ⟨E, hE⟩ : ∃ E : Nat, E = min (p + gapOf p + 7 + roomOf p) L.length := ⟨_, rfl⟩
    obtain ⟨V, hV⟩ : ∃ V, V = (L.drop (p + gapOf p)).take (7 + roomOf p) := ⟨_, rfl⟩
    have hE0 : min ((p : Int) + gapOf p + 7 + roomOf p) L.length = E := by omega
    have hcut : (bs L).extract (p + gapOf p) E = bs V := by
      rw [bs_cut, hV, hE]
      congr 1
      rw [List.take_eq_take_iff, List.length_drop]; omega
    have hVl : V.length ≤ 1000000 := by rw [hV]; simp; omega
    have hr : pread L p = preadV (p + gapOf p) V := by unfold pread; rw [if_pos hpre, hV]
    rw [hr]
    by_cases h6 : V.length < 6
    · obtain ⟨B1, a1, e1, B2, a2, e2, d1, d2, ha1, he⟩ := short_err V h6
      rw [preadV_short h6]
      exact pieceAt_short L p hL hpg hpre V E hE0 (by omega) (by omega) hcut hVl B1 B2 a1 a2 e1 e2 d1 d2 ha1 (by simpa using he) w
    · obtain ⟨s0, s1, s2, s3, c, d, S, rfl⟩ := six_of V h6
      · skip
        have d1 : dTake (s0 :: s1 :: s2 :: s3 :: c :: d :: S) 0 0 4 = ([s0, s1, s2, s3], 4, 0) := by
          have := dTake_ok (l := s0 :: s1 :: s2 :: s3 :: c :: d :: S) (at_ := 0) (n := 4) (by omega) (by simp; omega)
          simpa using this
        have d2 : dTake (s0 :: s1 :: s2 :: s3 :: c :: d :: S) 4 0 2 = ([c, d], 6, 0) := by
          have := dTake_ok (l := s0 :: s1 :: s2 :: s3 :: c :: d :: S) (at_ := 4) (n := 2) (by omega) (by simp; omega)
          simpa using this
        have hc := c.toNat_lt
        have hd := d.toNat_lt
        by_cases hn : 1 + c.toNat + d.toNat * 256 ≤ S.length
        · have d3 : dTake (s0 :: s1 :: s2 :: s3 :: c :: d :: S) 6 0 (1 + (c.toNat : Int) + (d.toNat : Int) * 256) = (S.take (1 + c.toNat + d.toNat * 256), 6 + (1 + c.toNat + d.toNat * 256), 0) := by
            have := dTake_ok (l := s0 :: s1 :: s2 :: s3 :: c :: d :: S) (at_ := 6) (n := 1 + (c.toNat : Int) + (d.toNat : Int) * 256) (by omega) (by simp; omega)
            rw [show (1 + (c.toNat : Int) + (d.toNat : Int) * 256).toNat = 1 + c.toNat + d.toNat * 256 by omega] at this
            simpa using this
          have hv : preadV (p + gapOf p) (s0 :: s1 :: s2 :: s3 :: c :: d :: S) = match S.take (1 + c.toNat + d.toNat * 256) with
            | k :: T => if Crc.mask (Crc.ofL (k :: T)) = big [s0, s1, s2, s3] ∧ 1 ≤ k.toNat ∧ k.toNat ≤ 4 then some (k.toNat, T, p + gapOf p + (7 + c.toNat + d.toNat * 256)) else none
            | [] => none := by rw [preadV, if_pos hn]
          rw [hv]
          have hSl : (S.take (1 + c.toNat + d.toNat * 256)).length = 1 + c.toNat + d.toNat * 256 := by rw [List.length_take]; omega
          obtain ⟨k, T, hkT⟩ : ∃ k T, S.take (1 + c.toNat + d.toNat * 256) = k :: T := by
            match hS : S.take (1 + c.toNat + d.toNat * 256) with
            | [] => rw [hS] at hSl; simp at hSl; omega
            | k :: T => exact ⟨k, T, rfl⟩
          rw [hkT] at d3 hSl ⊢
          simp only []
          have hTl : T.length ≤ 1000000 := by simp at hSl hVl hn; omega
          by_cases hw : Crc.mask (Crc.ofL (k :: T)) = big [s0, s1, s2, s3]
          · by_cases hk1 : 1 ≤ k.toNat
            · by_cases hk4 : k.toNat ≤ 4
              · rw [if_pos ⟨hw, hk1, hk4⟩]
                refine (pieceAt_yes L p hL hpg hpre _ E hE0 (by omega) (by omega) hcut hVl _ _ c d 4 _ 0 0 d1 d2 (by simp) (by simp) d3 k T rfl hTl rfl hw hk1 hk4 (by simp at hVl; omega) w).mono ?_
                rintro e w' ⟨rfl, hb⟩
                exact ⟨ret_at (by omega), hb⟩
              · rw [if_neg (by omega)]
                exact pieceAt_over L p hL hpg hpre _ E hE0 (by omega) (by omega) hcut hVl _ _ c d 4 _ 0 0 d1 d2 (by simp) (by simp) d3 k T rfl hTl rfl hw hk1 (by omega) w
            · rw [if_neg (by omega)]
              exact pieceAt_none L p hL hpg hpre _ E hE0 (by omega) (by omega) hcut hVl _ _ c d 4 _ 0 0 d1 d2 (by simp) (by simp) d3 k T rfl hTl rfl hw (by omega) w
          · rw [if_neg (fun h => hw h.1)]
            exact pieceAt_sum L p hL hpg hpre _ E hE0 (by omega) (by omega) hcut hVl _ _ c d 4 _ 0 0 d1 d2 (by simp) (by simp) d3 k T rfl hTl rfl hw w
        · have d3 : dTake (s0 :: s1 :: s2 :: s3 :: c :: d :: S) 6 0 (1 + (c.toNat : Int) + (d.toNat : Int) * 256) = ([], 6, 3) := dTake_short (.inr (by simp; omega))
          have hv : preadV (p + gapOf p) (s0 :: s1 :: s2 :: s3 :: c :: d :: S) = none := by rw [preadV, if_neg hn]
          rw [hv]
          exact pieceAt_long L p hL hpg hpre _ E hE0 (by omega) (by omega) hcut hVl _ _ c d 4 _ 0 _ d1 d2 (by simp) (by simp) d3 rfl w
  · have hr : pread L p = none := by unfold pread; rw [if_neg hpre]
    rw [hr]
    have hpre' : Lib.hasPrefix (L.drop p) (List.replicate (gapOf p) 0) = false := by simpa using hpre
    exact pieceAt_gap L p hL hp hpre' w
end Go.Proofs.YtdkgieaanpfhcaaGreatDoor
