/-
  The law BloomMay, walked. Conditions: as each theorem states.
-/
import Derived.Test.YtmgfgododhplpaaBlH
namespace Go.Proofs.Ytmgfgododhplpaa.Bl
open Go.RowKit
open Crc (ret_int val_int)

theorem ba_empty {F : ByteArray} (h : F.size = 0) : F = ⟨#[]⟩ := by
  cases F with
  | mk d => have : d = #[] := Array.eq_empty_of_size_eq_zero h
            rw [this]
theorem may_all (F key : ByteArray) (hF : F.size ≤ 1000) (hk : key.size ≤ 300) (w : World) :
    Calls Try.prog 15 #[.string F, .string key] w fun e w' => e = .returned (.bool (may F.data.toList key.data.toList)) ∧ Below w.heap.size w w' := by
  by_cases h : F.size = 0
  · rw [ba_empty h]
    exact (may_empty key w).mono fun e w' ⟨he, hw⟩ => ⟨he, by rw [hw]; exact Below.refl _ _⟩
  · exact may_any F key (by omega) (by omega) (by unfold maxLen; omega) w
theorem rmay_all (F key : ByteArray) (hF : F.size ≤ 1000) (hk : key.size ≤ 300) (w : World) :
    Calls Try.prog 16 #[.string F, .string key] w fun e w' => e = .returned (.bool (may F.data.toList key.data.toList)) ∧ Below w.heap.size w w' := by
  by_cases h : F.size = 0
  · rw [ba_empty h]
    exact rmay_empty key w
  · exact rmay_any F key (by omega) (by omega) (by omega) w
theorem mayL_heavy {w : World} (A : Option Addr) (c : Nat) (l : List (List UInt8)) (hlen : l.length ≤ 9223372036854775807) (hsz : ∀ s ∈ l, s.length ≤ 9223372036854775807) (hl : ¬ Light l) (ha : SRow w A l) (f key : ByteArray) (hf : f.size ≤ 9223372036854775807) (hk : key.size ≤ 9223372036854775807) :
    Calls Try.prog 4 #[.slice A l.length c, .string f, .string key] w fun e w' => e = .returned (.bool true) ∧ Below w.heap.size w w' := by
  have HA := Lib.hid ha
  have HL := Lib.hid (And.intro hlen (And.intro hsz hl))
  clear ha hlen hsz hl
  go_enter Try.func4, Try.ntmps4
  go_wp2_with (first
    | (go_at_call 6; (with_reducible refine (awake_any _).mono ?_); rintro e w1 ⟨rfl, hb1⟩; have HA1 := Lib.hid (HA.out.below hb1 (Nat.le_refl _)))
    | (go_at_call 7; (with_reducible refine (light_no A c l HL.out.1 HL.out.2.1 HL.out.2.2 HA1.out).mono ?_); rintro e w2 ⟨rfl, rfl⟩))
  go_ret
  exact ⟨rfl, hb1⟩
theorem mayL_long {w : World} (A : Option Addr) (c : Nat) (l : List (List UInt8)) (hl : Light l) (ha : SRow w A l) (f key : ByteArray) (hf : f.size ≤ 9223372036854775807) (hk : key.size ≤ 9223372036854775807) (h : 1000 < f.size ∨ 300 < key.size) :
    Calls Try.prog 4 #[.slice A l.length c, .string f, .string key] w fun e w' => e = .returned (.bool true) ∧ Below w.heap.size w w' := by
  have HA := Lib.hid ha
  have HL := Lib.hid hl
  clear ha hl
  by_cases h1 : 1000 < f.size
  · clear h
    go_enter Try.func4, Try.ntmps4
    go_wp2_with (first
      | (go_at_call 6; (with_reducible refine (awake_any _).mono ?_); rintro e w1 ⟨rfl, hb1⟩; have HA1 := Lib.hid (HA.out.below hb1 (Nat.le_refl _)))
      | (go_at_call 7; (with_reducible refine (light_yes A c l HL.out HA1.out).mono ?_); rintro e w2 ⟨rfl, rfl⟩))
    go_ret
    exact ⟨rfl, hb1⟩
  · have h2 : 300 < key.size := by omega
    clear h
    go_enter Try.func4, Try.ntmps4
    go_wp2_with (first
      | (go_at_call 6; (with_reducible refine (awake_any _).mono ?_); rintro e w1 ⟨rfl, hb1⟩; have HA1 := Lib.hid (HA.out.below hb1 (Nat.le_refl _)))
      | (go_at_call 7; (with_reducible refine (light_yes A c l HL.out HA1.out).mono ?_); rintro e w2 ⟨rfl, rfl⟩))
    go_ret
    exact ⟨rfl, hb1⟩
set_option maxRecDepth 100000 in
set_option maxHeartbeats 1000000 in
theorem mayL_main {w : World} (A : Option Addr) (c : Nat) (l : List (List UInt8)) (hl : Light l) (ha : SRow w A l) (f key : ByteArray) (hf : f.size ≤ 1000) (hk3 : key.size ≤ 300) :
    Calls Try.prog 4 #[.slice A l.length c, .string f, .string key] w fun e w' => e = .returned (.bool true) ∧ Below w.heap.size w w' := by
  have HA := Lib.hid ha
  have HL := Lib.hid hl
  have h100 := hl.1
  have HS := Lib.hid hl.2
  clear ha hl
  have d1 : decide (1000 < (f.size : Int)) = false := by simp; omega
  have d2 : decide (300 < (key.size : Int)) = false := by simp; omega
  have hN3 : (mk l).length ≤ 1000 := by rw [mk_len]; unfold bitsOf; omega
  have HM1 : Hid (∀ w, SRow w A l → Calls Try.prog 9 #[.slice A l.length c] w fun e w' => e = .returned (.string (bs (mk l))) ∧ Below w.heap.size w w') := fun w h => make_at A c _ l rfl HL.out h
  have HK : Hid (∀ s ∈ l, ∀ w, Calls Try.prog 15 #[.string (bs (mk l)), .string (bs s)] w fun e w' => e = .returned (.bool true) ∧ Below w.heap.size w w') := fun s hs w => by
    have := may_all (bs (mk l)) (bs s) (by rw [bs_size]; exact hN3) (by rw [bs_size]; exact HS.out s hs) w
    rw [show may (bs (mk l)).data.toList (bs s).data.toList = true from may_in l s hs] at this
    exact this
  obtain ⟨b1, hb1⟩ : ∃ b, b = may f.data.toList key.data.toList := ⟨_, rfl⟩
  obtain ⟨b2, hb2⟩ : ∃ b, b = may (mk l) key.data.toList := ⟨_, rfl⟩
  have H1 : Hid (∀ w, Calls Try.prog 15 #[.string f, .string key] w fun e w' => e = .returned (.bool b1) ∧ Below w.heap.size w w') := fun w => by rw [hb1]; exact may_all f key hf hk3 w
  have R1 : Hid (∀ w, Calls Try.prog 16 #[.string f, .string key] w fun e w' => e = .returned (.bool b1) ∧ Below w.heap.size w w') := fun w => by rw [hb1]; exact rmay_all f key hf hk3 w
  have H2 : Hid (∀ w, Calls Try.prog 15 #[.string (bs (mk l)), .string key] w fun e w' => e = .returned (.bool b2) ∧ Below w.heap.size w w') := fun w => by rw [hb2]; exact may_all (bs (mk l)) key (by rw [bs_size]; exact hN3) hk3 w
  have R2 : Hid (∀ w, Calls Try.prog 16 #[.string (bs (mk l)), .string key] w fun e w' => e = .returned (.bool b2) ∧ Below w.heap.size w w') := fun w => by rw [hb2]; exact rmay_all (bs (mk l)) key (by rw [bs_size]; exact hN3) hk3 w
  clear hb1 hb2
  generalize mk l = F at *
  go_enter Try.func4, Try.ntmps4
  go_wp2_with (first
    | (go_at_call 6; (with_reducible refine (awake_any _).mono ?_); rintro e w1 ⟨rfl, hb1⟩; have HA1 := Lib.hid (HA.out.below hb1 (Nat.le_refl _)); have HB1 := Lib.hid hb1; clear hb1)
    | (go_at_call 7; (with_reducible refine (light_yes A c l HL.out HA1.out).mono ?_); rintro e w2 ⟨rfl, rfl⟩)
    | (go_at_call 9; (with_reducible refine (HM1.out _ HA1.out).mono ?_); rintro e w3 ⟨rfl, hb3⟩; have HB3 := Lib.hid (HB1.out.trans (hb3.mono HB1.out.size)); clear hb3))
  go_loopw [29] (fun i wr => ∃ j : Nat, j ≤ l.length ∧ i = .int .i64 j ∧ Below w.heap.size w wr) (fun i _ => l.length - (intOf i).toNat)
  case atStart => exact ⟨0, by omega, rfl, HB3.out⟩
  case round =>
    obtain ⟨j, hj, rfl, hb⟩ := hrel
    have HB := Lib.hid hb
    clear hb
    by_cases hlt : j < l.length
    · obtain ⟨a, rfl, hab, hca⟩ := HA.out (by omega)
      have x0 : wr.cell? (a.add j) = some (.string (bs l[j])) := (HB.out.cell (p := a.add j) (by rw [block_add]; exact hab)).trans (hca j hlt)
      have HKj := Lib.hid (HK.out l[j] (List.getElem_mem hlt))
      generalize l[j] = s at x0 HKj
      clear hca
      go_wp2_with (first
        | (go_at_call 15; (with_reducible refine (HKj.out _).mono ?_); rintro e w4 ⟨rfl, hb4⟩; have HB4 := Lib.hid (HB.out.trans (hb4.mono HB.out.size)); clear hb4))
      go_roundw
      case rel => exact ⟨j + 1, by omega, by go_num, HB4.out⟩
      case measure => simp [intOf]; omega
    · have hME : Hid (∀ w, Calls Try.prog 15 #[.string ⟨#[]⟩, .string key] w fun e w' => e = .returned (.bool true) ∧ w = w') := fun w => may_empty key w
      go_wp2_with (first
        | (go_at_call 15; (with_reducible refine (H1.out _).mono ?_); rintro e w4 ⟨rfl, hb4⟩; have HB4 := Lib.hid (HB.out.trans (hb4.mono HB.out.size)); clear hb4)
        | (go_at_call 16; (with_reducible refine (R1.out _).mono ?_); rintro e w5 ⟨rfl, hb5⟩; have HB5 := Lib.hid (HB4.out.trans (hb5.mono HB4.out.size)); clear hb5)
        | (go_at_call 15; (with_reducible refine (H2.out _).mono ?_); rintro e w6 ⟨rfl, hb6⟩; have HB6 := Lib.hid (HB5.out.trans (hb6.mono HB5.out.size)); clear hb6)
        | (go_at_call 16; (with_reducible refine (R2.out _).mono ?_); rintro e w7 ⟨rfl, hb7⟩; have HB7 := Lib.hid (HB6.out.trans (hb7.mono HB6.out.size)); clear hb7)
        | (go_at_call 15; (with_reducible refine (hME.out _).mono ?_); rintro e w8 ⟨rfl, rfl⟩))
      go_ret
      exact ⟨rfl, HB7.out⟩
end Go.Proofs.Ytmgfgododhplpaa.Bl
