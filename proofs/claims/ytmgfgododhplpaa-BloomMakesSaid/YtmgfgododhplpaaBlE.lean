/-
  The examples of the chapter of filters, and which keys are gone through, walked. Conditions: as each theorem states.
-/
import Derived.Test.YtmgfgododhplpaaBlD
namespace Go.Proofs.Ytmgfgododhplpaa.Bl
open Go.RowKit
open Crc (ret_int val_int)

theorem may_zero (key : List UInt8) : may [0] key = false := by
  refine may_no (by decide) 0 (by decide) ?_
  exact has_zero 1 _
theorem bits_1 : bitsOf 1 = 64 := by decide
theorem bits_7 : bitsOf 7 = 72 := by decide
theorem mk_len1 (k : List UInt8) : (mk [k]).length = 8 := by rw [mk_len]; exact congrArg (· / 8) bits_1
theorem srow_one (w : World) (k : List UInt8) (t : TypeId) : SRow (w.alloc (.cells #[.string (bs k)] t)) (some ⟨w.heap.size, 0, none⟩) [k] := fun _ =>
  ⟨_, rfl, by simp, fun i hi => by
    have : i = 0 := by simpa using hi
    subst this
    simp [Addr.add]⟩
theorem srow_a (w : World) (t : TypeId) : SRow (w.alloc (.cells #[.string ⟨#[97]⟩] t)) (some ⟨w.heap.size, 0, none⟩) [[97]] := srow_one w [97] t
set_option maxRecDepth 100000 in
set_option maxHeartbeats 1000000 in
theorem awake_go (M : List UInt8) (HM : ∀ w A c, SRow w A [[97]] → Calls Try.prog 9 #[.slice A 1 c] w fun e w' => e = .returned (.string (bs M)) ∧ Below w.heap.size w w')
    (HY : ∀ w, Calls Try.prog 15 #[.string (bs M), .string ⟨#[97]⟩] w fun e w' => e = .returned (.bool true) ∧ Below w.heap.size w w')
    (HN : ∀ w, Calls Try.prog 15 #[.string ⟨#[0]⟩, .string ⟨#[97]⟩] w fun e w' => e = .returned (.bool false) ∧ Below w.heap.size w w')
    (H1 : ∀ w, Calls Try.prog 11 #[.int .i64 1] w fun e w' => e = .returned (.int .i64 64) ∧ w = w')
    (H7 : ∀ w, Calls Try.prog 11 #[.int .i64 7] w fun e w' => e = .returned (.int .i64 72) ∧ w = w') (w : World) :
    Calls Try.prog 6 #[] w fun e w' => e = .returned (.bool true) ∧ Below w.heap.size w w' := by
  have HM := Lib.hid HM
  have HY := Lib.hid HY
  have HN := Lib.hid HN
  have H1 := Lib.hid H1
  have H7 := Lib.hid H7
  go_enter Try.func6, Try.ntmps6
  go_wp2_with (first
    | (go_at_call 11; (with_reducible first | refine (H1.out _).mono ?_ | refine (H7.out _).mono ?_); rintro e w1 ⟨rfl, rfl⟩)
    | (go_at_call 9; (with_reducible refine (HM.out _ _ _ (srow_a _ _)).mono ?_); rintro e w2 ⟨rfl, hb2⟩)
    | (go_at_call 15; (with_reducible refine (HY.out _).mono ?_); rintro e w3 ⟨rfl, hb3⟩)
    | (go_at_call 15; (with_reducible refine (HN.out _).mono ?_); rintro e w4 ⟨rfl, hb4⟩))
  go_ret
  have b0 : Below w.heap.size w (w.alloc (.cells #[.string ⟨#[97]⟩] 9)) := (Below.refl _ w).alloc (Nat.le_refl _) _
  have b2 := b0.trans (hb2.mono b0.size)
  have b3 := b2.trans (hb3.mono b2.size)
  exact ⟨rfl, b3.trans (hb4.mono b3.size)⟩
theorem awake_any (w : World) : Calls Try.prog 6 #[] w fun e w' => e = .returned (.bool true) ∧ Below w.heap.size w w' := by
  refine awake_go (mk [[97]]) (fun w A c h => make_any A c [[97]] (by decide) (by decide) h) (fun w => ?_) (fun w => ?_) (fun w => ?_) (fun w => ?_) w
  · have := may_any (bs (mk [[97]])) ⟨#[97]⟩ (by rw [bs_size, mk_len1]; decide) (by rw [bs_size, mk_len1]; decide) (by decide) w
    rw [show may (bs (mk [[97]])).data.toList (ByteArray.mk #[97]).data.toList = true from may_in [[97]] [97] (by simp)] at this
    exact this
  · have := may_any ⟨#[0]⟩ ⟨#[97]⟩ (by decide) (by decide) (by decide) w
    rw [show may (ByteArray.mk #[0]).data.toList (ByteArray.mk #[97]).data.toList = false from may_zero [97]] at this
    exact this
  · have := bits_any 1 (by decide) w
    rw [bits_1] at this
    exact this
  · have := bits_any 7 (by decide) w
    rw [bits_7] at this
    exact this
def Light (l : List (List UInt8)) : Prop := l.length ≤ 100 ∧ ∀ s ∈ l, s.length ≤ 300
theorem light_yes {w : World} (A : Option Addr) (c : Nat) (l : List (List UInt8)) (hl : Light l) (ha : SRow w A l) :
    Calls Try.prog 7 #[.slice A l.length c] w fun e w' => e = .returned (.bool true) ∧ w = w' := by
  have HA := Lib.hid ha
  have h1 := hl.1
  have HS := Lib.hid hl.2
  clear ha hl
  have hbz := bs_size
  go_enter Try.func7, Try.ntmps7
  go_wp2
  go_loop [7] (fun i => ∃ j : Nat, j ≤ l.length ∧ i = .int .i64 j) (fun i => l.length - (intOf i).toNat)
  case atStart => exact ⟨0, by omega, rfl⟩
  case round =>
    obtain ⟨j, hj, rfl⟩ := hrel
    by_cases hlt : j < l.length
    · obtain ⟨a, rfl, hab, hca⟩ := HA.out (by omega)
      have x0 := hca j hlt
      have hsj := HS.out l[j] (List.getElem_mem hlt)
      clear hca
      go_wp2
      go_round
      case rel => exact ⟨j + 1, by omega, by go_num⟩
      case measure => simp [intOf]; omega
    · go_wp2
      go_ret
      exact ⟨rfl, rfl⟩
/-- The first key that is too long. -/
theorem long_at {l : List (List UInt8)} (h : ¬ ∀ s ∈ l, s.length ≤ 300) : ∃ k, ∃ hk : k < l.length, 300 < l[k].length ∧ ∀ j (hj : j < k), (l[j]'(by omega)).length ≤ 300 := by
  induction l with
  | nil => exact absurd (fun s hs => by cases hs) h
  | cons x l ih =>
    by_cases hx : x.length ≤ 300
    · have h2 : ¬ ∀ s ∈ l, s.length ≤ 300 := fun h2 => h (fun s hs => by
        rcases List.mem_cons.1 hs with rfl | hs
        · exact hx
        · exact h2 s hs)
      obtain ⟨k, hk, h3, h4⟩ := ih h2
      refine ⟨k + 1, by simpa using hk, by simpa using h3, fun j hj => ?_⟩
      cases j with
      | zero => exact hx
      | succ j => exact h4 j (by omega)
    · exact ⟨0, by simp, by simpa using (by omega : 300 < x.length), fun j hj => by omega⟩
theorem light_no {w : World} (A : Option Addr) (c : Nat) (l : List (List UInt8)) (hlen : l.length ≤ 9223372036854775807) (hsz : ∀ s ∈ l, s.length ≤ 9223372036854775807) (hl : ¬ Light l) (ha : SRow w A l) :
    Calls Try.prog 7 #[.slice A l.length c] w fun e w' => e = .returned (.bool false) ∧ w = w' := by
  have HA := Lib.hid ha
  clear ha
  have hbz := bs_size
  by_cases h100 : l.length ≤ 100
  · obtain ⟨k, hk, hbig, hsmall⟩ := long_at (fun h => hl ⟨h100, h⟩)
    have HB := Lib.hid hbig
    have HS := Lib.hid hsmall
    have HZ := Lib.hid hsz
    clear hbig hsmall hsz hl hlen
    go_enter Try.func7, Try.ntmps7
    go_wp2
    go_loop [7] (fun i => ∃ j : Nat, j ≤ k ∧ i = .int .i64 j) (fun i => l.length - (intOf i).toNat)
    case atStart => exact ⟨0, by omega, rfl⟩
    case round =>
      obtain ⟨j, hj, rfl⟩ := hrel
      have hlt : j < l.length := by omega
      obtain ⟨a, rfl, hab, hca⟩ := HA.out (by omega)
      have x0 := hca j hlt
      have hz := HZ.out l[j] (List.getElem_mem hlt)
      clear hca
      by_cases hjk : j = k
      · subst hjk
        have hb := HB.out
        go_wp2
        go_ret
        exact ⟨rfl, rfl⟩
      · have hs := HS.out j (by omega)
        go_wp2
        go_round
        case rel => exact ⟨j + 1, by omega, by go_num⟩
        case measure => simp [intOf]; omega
  · have h0 : 100 < l.length := by omega
    obtain ⟨a, rfl, hab, hca⟩ := HA.out (by omega)
    have x0 := hca 0 (by omega)
    have hz := hsz l[0] (List.getElem_mem _)
    have x1 : w.cell? a = some (.string (bs l[0])) := by simpa [Addr.add] using x0
    clear hca hsz hl
    go_enter Try.func7, Try.ntmps7
    go_wp2
    go_loop [7] (fun i => i = .int .i64 0) (fun i => l.length)
    case atStart => rfl
    case round =>
      subst hrel
      go_wp2
      go_ret
      exact ⟨rfl, rfl⟩
end Go.Proofs.Ytmgfgododhplpaa.Bl
