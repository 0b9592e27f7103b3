/-
  The law BloomMakes, walked. Conditions: as each theorem states.
-/
import Derived.Test.YtmgfgododhplpaaBlJ
namespace Go.Proofs.Ytmgfgododhplpaa.Bl
open Go.RowKit
open Crc (ret_int val_int)

theorem mkL_heavy {w : World} (A : Option Addr) (c : Nat) (l : List (List UInt8)) (hlen : l.length ≤ 9223372036854775807) (hsz : ∀ s ∈ l, s.length ≤ 9223372036854775807) (hl : ¬ Light l) (ha : SRow w A l) (key : ByteArray) (hk : key.size ≤ 9223372036854775807) (n b : Int) :
    Calls Try.prog 3 #[.slice A l.length c, .string key, .int .i64 n, .int .i64 b] w fun e w' => e = .returned (.bool true) ∧ Below w.heap.size w w' := by
  have HA := Lib.hid ha
  have HL := Lib.hid (And.intro hlen (And.intro hsz hl))
  clear ha hlen hsz hl
  go_enter Try.func3, Try.ntmps3
  go_wp2_with (first
    | (go_at_call 6; (with_reducible refine (awake_any _).mono ?_); rintro e w1 ⟨rfl, hb1⟩; have HA1 := Lib.hid (HA.out.below hb1 (Nat.le_refl _)))
    | (go_at_call 7; (with_reducible refine (light_no A c l HL.out.1 HL.out.2.1 HL.out.2.2 HA1.out).mono ?_); rintro e w2 ⟨rfl, rfl⟩))
  go_ret
  exact ⟨rfl, hb1⟩
set_option maxRecDepth 100000 in
theorem mkL_long {w : World} (A : Option Addr) (c : Nat) (l : List (List UInt8)) (hl : Light l) (ha : SRow w A l) (key : ByteArray) (n b : Int) (k1 k2 k3 : Bool) (h1 : decide (300 < (key.size : Int)) = k1) (h2 : decide (1048576 < n) = k2) (h3 : decide (1048576 < b) = k3) (h : (k1 || k2 || k3) = true) :
    Calls Try.prog 3 #[.slice A l.length c, .string key, .int .i64 n, .int .i64 b] w fun e w' => e = .returned (.bool true) ∧ Below w.heap.size w w' := by
  have HA := Lib.hid ha
  have HL := Lib.hid hl
  clear ha hl
  cases k1 <;> cases k2 <;> cases k3
  case false.false.false => cases h
  all_goals
    clear h
    go_enter Try.func3, Try.ntmps3
    go_wp2_with (first
      | (go_at_call 6; (with_reducible refine (awake_any _).mono ?_); rintro e w1 ⟨rfl, hb1⟩; have HA1 := Lib.hid (HA.out.below hb1 (Nat.le_refl _)))
      | (go_at_call 7; (with_reducible refine (light_yes A c l HL.out HA1.out).mono ?_); rintro e w2 ⟨rfl, rfl⟩))
    go_ret
    exact ⟨rfl, hb1⟩
theorem truths_row (F : List UInt8) (N : Nat) (hF : F.length ≤ 1000) (h0 : 0 < F.length) (hN : F.length * 8 = N) (w : World) :
    Calls Try.prog 8 #[.string (bs F)] w fun e w' => (∃ g cap, e = .returned (.slice (some ⟨g, 0, none⟩) N cap) ∧ g < w'.heap.size ∧ ∀ p, p < N → w'.cell? ⟨g, p, none⟩ = some (.bool (has F p))) ∧ Below w.heap.size w w' := by
  refine (truths_any (bs F) (by rw [bs_size]; omega) w).mono ?_
  rintro e w' ⟨⟨v, rfl, ho⟩, hb⟩
  rw [bs_size, hN] at ho
  obtain ⟨g, cap, rfl, hg, hg2⟩ := ho.form (by omega)
  refine ⟨⟨g, cap, rfl, hg2, fun p hp => ?_⟩, hb⟩
  rw [ho.cellAt p (by omega), bCells, List.getElem?_map]
  show Option.map Value.bool (truths F)[p]? = _
  rw [truths_at F p (by omega)]; rfl
theorem rmake_row {w : World} (A : Option Addr) (c : Nat) (l : List (List UInt8)) (N : Nat) (hl : Light l) (hN : bitsOf l.length = N) (ha : SRow w A l) :
    Calls Try.prog 10 #[.slice A l.length c] w fun e w' => (∃ g, e = .returned (.slice (some ⟨g, 0, none⟩) N N) ∧ g < w'.heap.size ∧ ∀ p, p < N → w'.cell? ⟨g, p, none⟩ = some (.bool (has (mk l) p))) ∧ Below w.heap.size w w' := by
  refine (rmake_any A c l hl.1 hl.2 ha).mono ?_
  rintro e w' ⟨⟨rfl, hh⟩, hb⟩
  rw [hN]
  refine ⟨⟨_, rfl, hh.1, fun p hp => ?_⟩, hb⟩
  have hlen := truths_len (mk l)
  rw [mk_bits, hN] at hlen
  rw [(hh.2 p (by omega)).1]
  have h2 := truths_at (mk l) p (by rw [mk_bits, hN]; exact hp)
  rw [List.getElem?_eq_getElem (by omega)] at h2
  injection h2 with h2
  rw [h2]
set_option maxRecDepth 100000 in
set_option maxHeartbeats 2000000 in
theorem mkL_main {w : World} (A : Option Addr) (c : Nat) (l : List (List UInt8)) (hl : Light l) (ha : SRow w A l) (key : ByteArray) (n b : Int) (d1 : decide (300 < (key.size : Int)) = false) (d2 : decide (1048576 < n) = false) (d3 : decide (1048576 < b) = false)
    (m : Int) (HB1 : ∀ w, Calls Try.prog 11 #[.int .i64 n] w fun e w' => e = .returned (.int .i64 m) ∧ w = w') (HB2 : ∀ w, Calls Try.prog 12 #[.int .i64 n] w fun e w' => e = .returned (.int .i64 m) ∧ w = w')
    (pc : Array Value) (P : Nat → Nat) (HP : ∀ w, Calls Try.prog 13 #[.string key, .int .i64 b] w fun e w' => e = .returned (.agg pc) ∧ Below w.heap.size w w')
    (hI : ∀ k w, k < 6 → (Instr.index 30 (.agg pc) (.int .i64 ((k : Nat) : Int))).run Try.prog w = .ok (.int .i64 ((P k : Nat) : Int)) w)
    (HR : ∀ w, Calls Try.prog 14 #[.string key, .int .i64 b] w fun e w' => (e = .returned (.slice (some ⟨w.heap.size, 0, none⟩) 6 6) ∧ Six w' w.heap.size P) ∧ Below w.heap.size w w') :
    Calls Try.prog 3 #[.slice A l.length c, .string key, .int .i64 n, .int .i64 b] w fun e w' => e = .returned (.bool true) ∧ Below w.heap.size w w' := by
  have HA := Lib.hid ha
  have HL := Lib.hid hl
  have h100 := hl.1
  have HB1 := Lib.hid HB1
  have HB2 := Lib.hid HB2
  have HP := Lib.hid HP
  have HR := Lib.hid HR
  have HI := Lib.hid hI
  clear ha hl hI
  obtain ⟨N, hN⟩ : ∃ N, bitsOf l.length = N := ⟨_, rfl⟩
  have hN1 : N ≤ 2000 := by rw [← hN]; unfold bitsOf; omega
  have hN2 := bitsOf_pos l.length
  rw [hN] at hN2
  have HM1 : Hid (∀ w, SRow w A l → Calls Try.prog 9 #[.slice A l.length c] w fun e w' => e = .returned (.string (bs (mk l))) ∧ Below w.heap.size w w') := fun w h => make_at A c _ l rfl HL.out h
  have HM2 : Hid (∀ w, SRow w A l → Calls Try.prog 10 #[.slice A l.length c] w fun e w' => (∃ g, e = .returned (.slice (some ⟨g, 0, none⟩) N N) ∧ g < w'.heap.size ∧ ∀ p, p < N → w'.cell? ⟨g, p, none⟩ = some (.bool (has (mk l) p))) ∧ Below w.heap.size w w') := fun w h => rmake_row A c l N HL.out hN h
  have HTR : Hid (∀ w, Calls Try.prog 8 #[.string (bs (mk l))] w fun e w' => (∃ g cap, e = .returned (.slice (some ⟨g, 0, none⟩) N cap) ∧ g < w'.heap.size ∧ ∀ p, p < N → w'.cell? ⟨g, p, none⟩ = some (.bool (has (mk l) p))) ∧ Below w.heap.size w w') := fun w => by
    have h8 := mk_bits l
    rw [hN] at h8
    exact truths_row (mk l) N (by omega) (by omega) h8 w
  generalize mk l = F at *
  clear hN
  generalize has F = T at *
  go_enter Try.func3, Try.ntmps3
  go_wp2_with (first
    | (go_at_call 6; (with_reducible refine (awake_any _).mono ?_); rintro e w1 ⟨rfl, hb1⟩; have HA1 := Lib.hid (HA.out.below hb1 (Nat.le_refl _)); have HW1 := Lib.hid hb1; clear hb1)
    | (go_at_call 7; (with_reducible refine (light_yes A c l HL.out HA1.out).mono ?_); rintro e w2 ⟨rfl, rfl⟩)
    | (go_at_call 9; (with_reducible refine (HM1.out _ HA1.out).mono ?_); rintro e w3 ⟨rfl, hb3⟩; have HA3 := Lib.hid (HA1.out.below hb3 (Nat.le_refl _)); have HW3 := Lib.hid (HW1.out.trans (hb3.mono HW1.out.size)); clear hb3)
    | (go_at_call 8; (with_reducible refine (HTR.out _).mono ?_); rintro e w4 ⟨⟨g, cap, rfl, hg, hc⟩, hb4⟩; have HC4 := Lib.hid hc; have HA4 := Lib.hid (HA3.out.below hb4 (Nat.le_refl _)); have HW4 := Lib.hid (HW3.out.trans (hb4.mono HW3.out.size)); clear hb4 hc)
    | (go_at_call 10; (with_reducible refine (HM2.out _ HA4.out).mono ?_); rintro e w5 ⟨⟨g5, rfl, hg5, hc5⟩, hb5⟩; have HC5 := Lib.hid hc5; have HC4 : Hid (∀ p, p < N → w5.cell? ⟨g, p, none⟩ = some (.bool (T p))) := (fun p hp => (hb5.cell (p := ⟨g, p, none⟩) hg).trans (HC4.out p hp)); have hg4 : g < w5.heap.size := Nat.lt_of_lt_of_le hg hb5.size; have HW5 := Lib.hid (HW4.out.trans (hb5.mono HW4.out.size)); clear hb5 hc5)
    | (go_at_call 11; (with_reducible refine (HB1.out _).mono ?_); rintro e w6 ⟨rfl, rfl⟩)
    | (go_at_call 12; (with_reducible refine (HB2.out _).mono ?_); rintro e w7 ⟨rfl, rfl⟩))
  go_loopw [51] (fun i wr => ∃ k nq : Nat, k ≤ N ∧ i = .int .i64 k ∧ wr = w5.drewN nq) (fun i _ => N - (intOf i).toNat)
  case atStart => exact ⟨0, 0, by omega, rfl, rfl⟩
  case round =>
    obtain ⟨k, nq, hk, rfl, rfl⟩ := hrel
    by_cases hlt : k < N
    · have y1 : (w5.drewN nq).cell? ⟨g, k, none⟩ = some (.bool (T k)) := HC4.out k hlt
      have y2 : (w5.drewN nq).cell? ⟨g5, k, none⟩ = some (.bool (T k)) := HC5.out k hlt
      have z1 : w5.cell? ⟨g, k, none⟩ = some (.bool (T k)) := HC4.out k hlt
      have z2 : w5.cell? ⟨g5, k, none⟩ = some (.bool (T k)) := HC5.out k hlt
      generalize T k = t at *
      go_wp2
      go_quiet (fail)
      go_wp2
      go_roundw
      case rel => exact ⟨k + 1, _, by omega, by go_num, rfl⟩
      case measure => simp [intOf]; omega
    · obtain rfl : k = N := by omega
      have HW : Hid (Below w.heap.size w (w5.drewN nq)) := below_drewN HW5.out nq
      generalize w5.drewN nq = w6 at *
      clear HC4 HC5
      go_wp2_with (first
        | (go_at_call 13; (with_reducible refine (HP.out _).mono ?_); rintro e w7 ⟨rfl, hb7⟩; have HW7 := Lib.hid (HW.out.trans (hb7.mono HW.out.size)); clear hb7))
      go_loopw [67] (fun i wr => ∃ j : Nat, j ≤ 6 ∧ i = .int .i64 j ∧ Below w.heap.size w wr) (fun i _ => 6 - (intOf i).toNat)
      case atStart => exact ⟨0, by omega, rfl, HW7.out⟩
      case round =>
        obtain ⟨j, hj, rfl, hb⟩ := hrel
        have HB := Lib.hid hb
        clear hb
        by_cases h6 : j < 6
        · have hidx := fun w => HI.out j w h6
          have HRR : Hid (∀ w, Calls Try.prog 14 #[.string key, .int .i64 b] w fun e w' => (e = .returned (.slice (some ⟨w.heap.size, 0, none⟩) 6 6) ∧ w'.cell? ⟨w.heap.size, j, none⟩ = some (.int .i64 ((P j : Nat) : Int))) ∧ Below w.heap.size w w') := fun w => (HR.out w).mono fun e w' ⟨⟨he, hs⟩, hb⟩ => ⟨⟨he, hs.2 j h6⟩, hb⟩
          generalize P j = p at *
          go_wp2_with (first
            | (go_at_call 14; (with_reducible refine (HRR.out _).mono ?_); rintro e w8 ⟨⟨rfl, hc8⟩, hb8⟩; have HW8 := Lib.hid (HB.out.trans (hb8.mono HB.out.size)); clear hb8))
          go_roundw
          case rel => exact ⟨j + 1, by omega, by go_num, HW8.out⟩
          case measure => simp [intOf]; omega
        · go_wp2
          go_ret
          exact ⟨rfl, HB.out⟩
theorem index_z0 (w : World) : (Instr.index 30 (.agg z6) (.int .i64 ((0 : Nat) : Int))).run Try.prog w = .ok (.int .i64 ((0 : Nat) : Int)) w := by
  kernel_rfl
theorem index_z1 (w : World) : (Instr.index 30 (.agg z6) (.int .i64 ((1 : Nat) : Int))).run Try.prog w = .ok (.int .i64 ((0 : Nat) : Int)) w := by
  kernel_rfl
theorem index_z2 (w : World) : (Instr.index 30 (.agg z6) (.int .i64 ((2 : Nat) : Int))).run Try.prog w = .ok (.int .i64 ((0 : Nat) : Int)) w := by
  kernel_rfl
theorem index_z3 (w : World) : (Instr.index 30 (.agg z6) (.int .i64 ((3 : Nat) : Int))).run Try.prog w = .ok (.int .i64 ((0 : Nat) : Int)) w := by
  kernel_rfl
theorem index_z4 (w : World) : (Instr.index 30 (.agg z6) (.int .i64 ((4 : Nat) : Int))).run Try.prog w = .ok (.int .i64 ((0 : Nat) : Int)) w := by
  kernel_rfl
theorem index_z5 (w : World) : (Instr.index 30 (.agg z6) (.int .i64 ((5 : Nat) : Int))).run Try.prog w = .ok (.int .i64 ((0 : Nat) : Int)) w := by
  kernel_rfl
theorem index_z (k : Nat) (w : World) (hk : k < 6) : (Instr.index 30 (.agg z6) (.int .i64 ((k : Nat) : Int))).run Try.prog w = .ok (.int .i64 (((fun _ => 0 : Nat → Nat) k : Nat) : Int)) w := by
  match k, hk with
  | 0, _ => exact index_z0 w
  | 1, _ => exact index_z1 w
  | 2, _ => exact index_z2 w
  | 3, _ => exact index_z3 w
  | 4, _ => exact index_z4 w
  | 5, _ => exact index_z5 w
theorem mkL_any {w : World} (A : Option Addr) (c : Nat) (l : List (List UInt8)) (hl : Light l) (ha : SRow w A l) (key : ByteArray) (n b : Int) (h1 : ¬ 300 < key.size) (h2 : ¬ 1048576 < n) (h3 : ¬ 1048576 < b) :
    Calls Try.prog 3 #[.slice A l.length c, .string key, .int .i64 n, .int .i64 b] w fun e w' => e = .returned (.bool true) ∧ Below w.heap.size w w' := by
  obtain ⟨m, M1, M2⟩ : ∃ m : Int, (∀ w, Calls Try.prog 11 #[.int .i64 n] w fun e w' => e = .returned (.int .i64 m) ∧ w = w') ∧ (∀ w, Calls Try.prog 12 #[.int .i64 n] w fun e w' => e = .returned (.int .i64 m) ∧ w = w') := by
    by_cases hn : n ≤ 0
    · exact ⟨64, fun w => bits_neg n hn w, fun w => rbits_neg n hn w⟩
    · obtain ⟨k, rfl⟩ : ∃ k : Nat, n = k := ⟨n.toNat, by omega⟩
      exact ⟨_, fun w => bits_any k (by omega) w, fun w => rbits_any k (by omega) w⟩
  have d1 : decide (300 < (key.size : Int)) = false := by rw [decide_eq_false_iff_not]; omega
  have d2 : decide (1048576 < n) = false := by rw [decide_eq_false_iff_not]; omega
  have d3 : decide (1048576 < b) = false := by rw [decide_eq_false_iff_not]; omega
  by_cases hb : b < 1
  · exact mkL_main A c l hl ha key n b d1 d2 d3 m M1 M2 z6 (fun _ => 0) (fun w => places_none key b hb w) (fun k w hk => index_z k w hk) (fun w => rplaces_none key b hb w)
  · obtain ⟨k, rfl⟩ : ∃ k : Nat, b = k := ⟨b.toNat, by omega⟩
    exact mkL_main A c l hl ha key n k d1 d2 d3 m M1 M2 (pcsOf key.data.toList k) (plc key.data.toList k) (fun w => places_any key (by unfold maxLen; omega) k (by omega) (by omega) w) (fun j w hj => index_pl _ _ j w hj) (fun w => rplaces_any key (by omega) k (by omega) (by omega) w)
end Go.Proofs.Ytmgfgododhplpaa.Bl
