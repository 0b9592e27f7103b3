/-
  The law SeasonWaves, walked. Conditions: as each theorem states.
-/
import Derived.Test.YtmecpbgjienidaaSeF
import Derived.Test.YtmecpbgjienidaaSeG
namespace Go.Proofs.Ytmecpbgjienidaa
open Go.RowKit
open Se Fl
attribute [local go_sem] run_store_float run_store_complex

def RsY (l : List Int) (w : World) (e : Ending) (w' : World) : Prop := ∃ b : Nat, e = .returned (.tuple #[.slice (some ⟨b, 0, none⟩) 4 4, .bool true]) ∧ w.heap.size ≤ b ∧ B4 w' b (ival (smk l l.length)) ∧ Below w.heap.size w w'
theorem rsums_yes (A : Option Addr) (c : Nat) (l : List Int) (hl : l.length ≤ 1000000) (hall : ∀ p ∈ l, rg p) (ht : tot l l.length ≤ 1125899906842624) (w : World) (RA : NRow w A l) :
    Calls Try.prog 8 #[.slice A l.length c] w (RsY l w) :=
  (rsums_any A c l hl hall w RA).mono fun _e w' ⟨hb, h1, _⟩ => ⟨_, (h1 ht).1, Nat.le_refl _, (h1 ht).2, hb⟩
theorem rsums_no (A : Option Addr) (c : Nat) (l : List Int) (hl : l.length ≤ 1000000) (hall : ∀ p ∈ l, rg p) (ht : ¬ tot l l.length ≤ 1125899906842624) (w : World) (RA : NRow w A l) :
    Calls Try.prog 8 #[.slice A l.length c] w fun e w' => e = .returned (.tuple #[.slice none 0 0, .bool false]) ∧ Below w.heap.size w w' :=
  (rsums_any A c l hl hall w RA).mono fun _e w' ⟨hb, _, h1⟩ => ⟨h1 ht, hb⟩
theorem w_le (s : Nat → Int) (k : Nat) (hk : k < 4) : (wre s k).natAbs ≤ szs s 4 ∧ (wim s k).natAbs ≤ szs s 4 := by
  obtain ⟨e1, e2⟩ := pre_all s k hk
  have := pre_le s k 4
  rw [e1, e2] at this; exact this
theorem fl_neq {b : Nat} {z : Int} (h : Fl b z) (hz : z.natAbs ≤ 9007199254740992) : (FloatKind.f64.format.order b (floatOfInt .f64 z) != some .eq) = false := by
  have h2 := fl_eq h (fl_int hz)
  rw [show FloatKind.f64.format = Ieee.double from rfl, bne, h2]; simp
theorem sq_in {x : Int} (h1 : -1048576 < x) (h2 : x < 1048576) : 0 ≤ x * x ∧ x * x ≤ 1099511627776 := by
  have h := sq_small (x := x) (by omega)
  have h3 : 0 ≤ x * x := by
    rcases Int.le_total 0 x with h | h
    · exact Int.mul_nonneg h h
    · exact Int.mul_nonneg_of_nonpos_of_nonpos h h
  omega
theorem mod4_lt (m : Int) : (m % 4).toNat < 4 := by omega
set_option maxHeartbeats 2000000 in
set_option maxRecDepth 100000 in
theorem waves_yes (A : Option Addr) (c : Nat) (l : List Int) (hl : l.length ≤ 300) (hall : ∀ p ∈ l, rg p) (ht : tot l l.length ≤ 1125899906842624) (m : Int) (h1 : -9223372036854775808 ≤ m) (h2 : m ≤ 9223372036854775807) (w : World) (RA : NRow w A l) :
    Calls Try.prog 3 #[.slice A l.length c, .int .i64 m] w fun e w' => e = .returned (.bool true) ∧ Below w.heap.size w w' := by
  have HR := Lib.hid RA
  have hll : (l.length : Int) ≤ 300 := by omega
  have cO : Hid (∀ W : World, NRow W A l → Calls Try.prog 7 #[.slice A l.length c] W (OfY l W)) := fun W R => of_yes A c l (by omega) hall ht W R
  have cS : Hid (∀ W : World, NRow W A l → Calls Try.prog 8 #[.slice A l.length c] W (RsY l W)) := fun W R => rsums_yes A c l (by omega) hall ht W R
  obtain ⟨s, hs⟩ : ∃ s, smk l l.length = s := ⟨_, rfl⟩
  have hsz : szs s 4 ≤ 1125899906842624 := by have := smk_le l l.length; rw [hs] at this; omega
  have HS := Lib.hid hs
  have HSZ := Lib.hid hsz
  have cW : Hid (∀ (W : World) (b : Nat), B4 W b (ival s) → Calls Try.prog 9 #[.slice (some ⟨b, 0, none⟩) 4 4] W (RwQ s W)) := fun W b hB => rwaves_any b s hsz W hB
  have hand := and3 h1 h2
  have hk4 := mod4_lt m
  have cP : Hid (∀ (W : World) (g : Nat → Cw), WF g (wre s) (wim s) → Calls Try.prog 10 #[.agg #[.complex .f64 (g 0).re (g 0).im, .complex .f64 (g 1).re (g 1).im, .complex .f64 (g 2).re (g 2).im, .complex .f64 (g 3).re (g 3).im], .int .i64 m] W (PwQ (wre s (m % 4).toNat) (wim s (m % 4).toNat) W)) := fun W g hg => power_any g (wre s) (wim s) hg m h1 h2 W
  clear hs hsz ht hall RA h1 h2
  generalize (m % 4).toNat = kk at *
  go_enter Try.func3, Try.ntmps3
  go_wp2_with (first
    | (go_at_call 6; refine (awake33_any _).mono ?_; rintro e w1 ⟨rfl, hb1⟩; have R1 := Lib.hid (HR.out.below hb1); have HB1 := Lib.hid hb1; clear hb1)
    | (go_at_call 7; (with_reducible refine (cO.out _ R1.out).mono ?_); rintro e w2 ⟨g, rfl, hg, hb2⟩; rw [HS.out] at hg; have HG := Lib.hid hg; have R2 := Lib.hid (R1.out.below hb2); have HB2 := Lib.hid hb2; clear hb2 hg)
    | (go_at_call 8; (with_reducible refine (cS.out _ (NRow.alloc R2.out _)).mono ?_); rintro e w4 ⟨b, rfl, hbl, hB, hb4⟩; rw [HS.out] at hB; have HBs := Lib.hid hB; have G4 := Lib.hid (B4.below (B4.new w2 (fcv g) 26) hb4 (by simp)); have HB4 := Lib.hid hb4; clear hb4 hB)
    | (go_at_call 9; (with_reducible refine (cW.out _ b HBs.out).mono ?_); rintro e w5 ⟨b1, b2, rfl, hl1, hl2, hB1, hB2, hb5⟩; have HC1 := Lib.hid hB1; have HC2 := Lib.hid hB2; have G5 := Lib.hid (B4.below G4.out hb5 G4.out.1); have g0 := G5.out.cx (j := 0) (by decide); have g1 := G5.out.cx (j := 1) (by decide); have g2 := G5.out.cx (j := 2) (by decide); have g3 := G5.out.cx (j := 3) (by decide); have HB5 := Lib.hid hb5; clear hb5 hB1 hB2))
  clear g0 g1 g2 g3
  have HBW : Hid (Below w.heap.size w w5) := by
    have k2 := HB1.out.trans (HB2.out.mono HB1.out.size)
    have k3 := k2.alloc k2.size (.cells #[fcv g 0, fcv g 1, fcv g 2, fcv g 3] 26)
    have k4 := k3.trans (HB4.out.mono k3.size)
    exact k4.trans (HB5.out.mono k4.size)
  clear HB1 HB2 HB4 HB5 R1 R2 hbl hl1 hl2 HBs G4 cO cS cW
  go_loop [53] (fun i => ∃ k : Nat, k ≤ 4 ∧ i = .int .i64 k) (fun i => 4 - (intOf i).toNat)
  case atStart => exact ⟨0, by omega, rfl⟩
  case round =>
    obtain ⟨k, hk, rfl⟩ := hrel
    by_cases h4 : k < 4
    · have h4' : (k : Int) < 4 := by omega
      have hix : ∀ W, (Instr.index 26 (.agg #[.complex .f64 (g 0).re (g 0).im, .complex .f64 (g 1).re (g 1).im, .complex .f64 (g 2).re (g 2).im, .complex .f64 (g 3).re (g 3).im]) (.int .i64 (k : Int))).run Try.prog W = .ok (.complex .f64 (g k).re (g k).im) W := fun W => index_wv g k h4 W
      have c1 : w5.cell? ⟨b1, k, none⟩ = some (.int .i64 (wre s k)) := (HC1.out.2 k h4).1
      have c2 : w5.cell? ⟨b2, k, none⟩ = some (.int .i64 (wim s k)) := (HC2.out.2 k h4).1
      have hle := w_le s k h4
      have hsz := HSZ.out
      have e1 := fl_neq (HG.out k h4).1 (by omega)
      have e2 := fl_neq (HG.out k h4).2 (by omega)
      clear hle hsz
      generalize wre s k = x at *
      generalize wim s k = y at *
      go_wp2
      go_round
      case rel => exact ⟨k + 1, by omega, by go_num⟩
      case measure => simp [intOf]; omega
    · obtain rfl : k = 4 := by omega
      have g0 := G5.out.cx (j := 0) (by decide)
      have g1 := G5.out.cx (j := 1) (by decide)
      have g2 := G5.out.cx (j := 2) (by decide)
      have g3 := G5.out.cx (j := 3) (by decide)
      have c1 : w5.cell? ⟨b1, kk, none⟩ = some (.int .i64 (wre s kk)) := (HC1.out.2 kk hk4).1
      have c2 : w5.cell? ⟨b2, kk, none⟩ = some (.int .i64 (wim s kk)) := (HC2.out.2 kk hk4).1
      have l1 := HC1.out.1
      have l2 := HC2.out.1
      have hle := w_le s kk hk4
      have hsz := HSZ.out
      have HLE := Lib.hid hle
      have cQ := Lib.hid (fun W => cP.out W g HG.out)
      clear hle hsz cP
      generalize wre s kk = x at *
      generalize wim s kk = y at *
      go_wp2_with (go_at_call 10; (with_reducible refine (cQ.out _).mono ?_); rintro e w6 ⟨p, rfl, hp, hps, hb6⟩; have HPS := Lib.hid hps; have d1 := (hb6.cell (p := ⟨b1, kk, none⟩) l1).trans c1; have d2 := (hb6.cell (p := ⟨b2, kk, none⟩) l2).trans c2; have HB6 := Lib.hid hb6; clear hb6 hps c1 c2)
      go_wp2
      go_quiet (fail)
      have HBQ : Hid (Below w.heap.size w (w6.drewN nq)) := by
        have k := HBW.out.trans (HB6.out.mono HBW.out.size)
        exact ⟨k.os, k.tape, k.output, k.size, k.block⟩
      generalize w6.drewN nq = w7 at *
      have hp2 : decide (-1 ≤ p) = true := decide_eq_true hp
      have hcase : (-1048576 < x ∧ x < 1048576 ∧ -1048576 < y ∧ y < 1048576) ∨ (¬ -1048576 < x) ∨ (-1048576 < x ∧ ¬ x < 1048576) ∨ (-1048576 < x ∧ x < 1048576 ∧ ¬ -1048576 < y) ∨ (-1048576 < x ∧ x < 1048576 ∧ -1048576 < y ∧ ¬ y < 1048576) := by omega
      clear d1 d2 g0 g1 g2 g3 l1 l2 HLE hk h4
      rcases hcase with ⟨k1, k2, k3, k4⟩ | k1 | ⟨k1, k2⟩ | ⟨k1, k2, k3⟩ | ⟨k1, k2, k3, k4⟩
      · have e := HPS.out (by omega) (by omega)
        have s1 := sq_in k1 k2
        have s2 := sq_in k3 k4
        have HE := Lib.hid e
        clear e
        have q1 := Lib.hid (IntWalk.wrap64_in (x * x) (by omega))
        have q2 := Lib.hid (IntWalk.wrap64_in (y * y) (by omega))
        have q3 := Lib.hid (IntWalk.wrap64_in (x * x + y * y) (by omega))
        clear s1 s2
        go_wp2
        go_ret
        exact ⟨ret_bool (by rw [HE.out]; simp [q1.out, q2.out, q3.out]), HBQ.out⟩
      all_goals
        go_wp2
        go_ret
        exact ⟨ret_bool (by first | exact hp2 | simp), HBQ.out⟩
set_option maxHeartbeats 2000000 in
set_option maxRecDepth 100000 in
theorem waves_no (A : Option Addr) (c : Nat) (l : List Int) (hl : l.length ≤ 300) (hall : ∀ p ∈ l, rg p) (ht : ¬ tot l l.length ≤ 1125899906842624) (m : Int) (w : World) (RA : NRow w A l) :
    Calls Try.prog 3 #[.slice A l.length c, .int .i64 m] w fun e w' => e = .returned (.bool true) ∧ Below w.heap.size w w' := by
  have HR := Lib.hid RA
  have hll : (l.length : Int) ≤ 300 := by omega
  have cO : Hid (∀ W : World, NRow W A l → Calls Try.prog 7 #[.slice A l.length c] W fun e w' => e = .returned (.tuple #[.agg #[.complex .f64 0 0, .complex .f64 0 0, .complex .f64 0 0, .complex .f64 0 0], .bool false]) ∧ Below W.heap.size W w') := fun W R => of_no A c l (by omega) hall ht W R
  have cS : Hid (∀ W : World, NRow W A l → Calls Try.prog 8 #[.slice A l.length c] W fun e w' => e = .returned (.tuple #[.slice none 0 0, .bool false]) ∧ Below W.heap.size W w') := fun W R => rsums_no A c l (by omega) hall ht W R
  have heq : ∀ (W : World), (Op.equalIn 10000 26 (.agg #[.complex .f64 0 0, .complex .f64 0 0, .complex .f64 0 0, .complex .f64 0 0]) (.agg #[.complex .f64 0 0, .complex .f64 0 0, .complex .f64 0 0, .complex .f64 0 0])).run Try.prog W = .ok true W := fun W => by
    have h := equal_wave (fun _ => c0) (fun _ => c0) W
    rw [weq_yes (X := fun _ => 0) (Y := fun _ => 0) (fun _ _ => cf_zero) (fun _ _ => cf_zero)] at h
    exact h
  clear ht hall RA
  go_enter Try.func3, Try.ntmps3
  go_wp2_with (first
    | (go_at_call 6; refine (awake33_any _).mono ?_; rintro e w1 ⟨rfl, hb1⟩; have R1 := Lib.hid (HR.out.below hb1); have HB1 := Lib.hid hb1; clear hb1)
    | (go_at_call 7; (with_reducible refine (cO.out _ R1.out).mono ?_); rintro e w2 ⟨rfl, hb2⟩; have R2 := Lib.hid (R1.out.below hb2); have HB2 := Lib.hid hb2; have g0 := (B4.new w2 fz 26); clear hb2)
    | (go_at_call 8; (with_reducible refine (cS.out _ (NRow.alloc R2.out _)).mono ?_); rintro e w4 ⟨rfl, hb4⟩; have B4' := B4.below g0 hb4 (by simp); have z0 : w4.cell? ⟨w2.heap.size, 0, none⟩ = some (.complex .f64 0 0) := (B4'.2 0 (by decide)).1; have z1 : w4.cell? ⟨w2.heap.size, 1, none⟩ = some (.complex .f64 0 0) := (B4'.2 1 (by decide)).1; have z2 : w4.cell? ⟨w2.heap.size, 2, none⟩ = some (.complex .f64 0 0) := (B4'.2 2 (by decide)).1; have z3 : w4.cell? ⟨w2.heap.size, 3, none⟩ = some (.complex .f64 0 0) := (B4'.2 3 (by decide)).1; have HB4 := Lib.hid hb4; clear hb4 B4'))
  go_ret
  have k2 := HB1.out.trans (HB2.out.mono HB1.out.size)
  have k3 := k2.alloc k2.size (.cells #[.complex .f64 0 0, .complex .f64 0 0, .complex .f64 0 0, .complex .f64 0 0] 26)
  exact ⟨rfl, k3.trans (HB4.out.mono k3.size)⟩
theorem waves_long (A : Option Addr) (c : Nat) (l : List Int) (hl : ¬ l.length ≤ 300) (m : Int) (w : World) :
    Calls Try.prog 3 #[.slice A l.length c, .int .i64 m] w fun e w' => e = .returned (.bool true) ∧ Below w.heap.size w w' := by
  have hll : ¬ (l.length : Int) ≤ 300 := by omega
  go_enter Try.func3, Try.ntmps3
  go_wp2_with (go_at_call 6; refine (awake33_any _).mono ?_; rintro e w1 ⟨rfl, hb1⟩)
  go_ret
  exact ⟨rfl, hb1⟩
end Go.Proofs.Ytmecpbgjienidaa
