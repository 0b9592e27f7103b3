/-
  The Go text of the disk names, walked. Conditions: as each theorem states.
-/
import Derived.Test.YtpeobjnamflibaaDkA
namespace Go.Proofs.Ytpeobjnamflibaa.Dk
open Go.RowKit
/-- a byte that may stand in a name -/
def inNm (c : UInt8) : Bool := (decide (97 ≤ c.toNat) && decide (c.toNat ≤ 122)) || (decide (48 ≤ c.toNat) && decide (c.toNat ≤ 57)) || c.toNat == 45 || c.toNat == 46
def isNm (l : List UInt8) : Bool := decide (1 ≤ l.length) && decide (l.length ≤ 32) && l.all inNm
theorem inName_any (c : UInt8) (w : World) : Calls Try.prog 48 #[.int .u8 c.toNat] w fun e w' => e = .returned (.bool (inNm c)) ∧ w = w' := by
  have hc := c.toNat_lt
  go_enter Try.func48, Try.ntmps48
  go_wp2
  all_goals go_ret
  all_goals refine ⟨congrArg (fun b => Ending.returned (.bool b)) ?_, rfl⟩
  all_goals rw [Bool.eq_iff_iff]
  all_goals simp [inNm]
  all_goals omega

theorem take_snoc' (s : ByteArray) (k : Nat) (h : k < s.size) : s.data.toList.take (k + 1) = s.data.toList.take k ++ [s[k]] := by
  rw [List.take_succ_eq_append_getElem (by simpa using h)]; rfl
theorem isNm_no {l : List UInt8} (h : l.length < 1 ∨ 32 < l.length) : isNm l = false := by
  unfold isNm
  rcases h with h | h
  · simp [show ¬ 1 ≤ l.length by omega]
  · simp [show ¬ l.length ≤ 32 by omega]
theorem isName_any (s : ByteArray) (hs : Hid (s.size ≤ maxLen)) (w : World) : Calls Try.prog 37 #[.string s] w fun e w' => e = .returned (.bool (isNm s.data.toList)) ∧ w = w' := by
  have hl : s.data.toList.length = s.size := by rw [Array.length_toList]; rfl
  have hx : s.size ≤ 9223372036854775807 := hs.out
  by_cases h1 : s.size < 1 ∨ 32 < s.size
  · rw [isNm_no (by rw [hl]; exact h1)]
    clear hl
    by_cases h2 : s.size < 1
    · clear h1
      go_enter Try.func37, Try.ntmps37
      go_wp2
      go_ret
      exact ⟨rfl, rfl⟩
    · have h3 : 32 < s.size := by omega
      have h2' : 1 ≤ s.size := by omega
      clear h1 h2
      go_enter Try.func37, Try.ntmps37
      go_wp2
      go_ret
      exact ⟨rfl, rfl⟩
  · have h2 : 1 ≤ s.size := by omega
    have h3 : s.size ≤ 32 := by omega
    clear h1
    have HL := Lib.hid hl
    clear hl
    go_enter Try.func37, Try.ntmps37
    go_wp2
    go_loop [14] (fun i => ∃ k : Nat, k ≤ s.size ∧ i = .int .i64 k ∧ (s.data.toList.take k).all inNm = true) (fun i => s.size - (intOf i).toNat)
    case atStart => exact ⟨0, by omega, rfl, rfl⟩
    case round =>
      obtain ⟨k, hk, rfl, ha⟩ := hrel
      have HA := Lib.hid ha
      clear ha
      by_cases hlt : k < s.size
      · have hts := Lib.hid (take_snoc' s k hlt)
        by_cases hin : inNm s[k] = true
        · go_wp2_with (go_at_call 48; with_reducible refine (inName_any s[k] _).mono ?_; rintro e w1 ⟨rfl, rfl⟩)
          go_round
          case rel => exact ⟨k + 1, by omega, by go_num, by rw [hts.out, List.all_append, HA.out]; simp [hin]⟩
          case measure => simp [intOf]; omega
        · have hin' : inNm s[k] = false := by simpa using hin
          clear hin
          go_wp2_with (go_at_call 48; with_reducible refine (inName_any s[k] _).mono ?_; rintro e w1 ⟨rfl, rfl⟩)
          go_ret
          refine ⟨congrArg (fun b => Ending.returned (.bool b)) ?_, rfl⟩
          have hm : s[k] ∈ s.data.toList := by
            have : s[k] ∈ s.data.toList.take (k + 1) := by rw [hts.out]; simp
            exact List.mem_of_mem_take this
          have : s.data.toList.all inNm = false := by
            rw [List.all_eq_false]; exact ⟨_, hm, by simp [hin']⟩
          simp [isNm, this]
      · go_wp2
        go_ret
        refine ⟨congrArg (fun b => Ending.returned (.bool b)) ?_, rfl⟩
        have h0 := HA.out
        rw [List.take_of_length_le (by rw [HL.out]; omega)] at h0
        unfold isNm
        rw [h0, HL.out]
        simp [h2, h3]
end Go.Proofs.Ytpeobjnamflibaa.Dk
