/-
  The law KeyKeeps, walked where both keys are made. Conditions: as each theorem states.
-/
import Derived.Test.YtlpobkgmpegfjaaDoorKyR
namespace Go.Proofs.YtlpobkgmpegfjaaDoor.keyKeeps
open Go.RowKit
open Go.Proofs.YtlpobkgmpegfjaaDoor
open Vi

theorem same_cut {w : World} (A B : Option Addr) (c d : Nat) (la lb : List KPart) (t : Bool) (ht : t = true ↔ la = lb.take la.length) (hla : la.length ≤ 1000) (hlb : lb.length ≤ 1000) (hab : la.length ≤ lb.length) (ha : PRow w A la) (hb : PRow w B lb) :
    Calls Tryd.prog 19 #[.slice A la.length c, .slice B la.length d] w fun e w' => e = .returned (.bool t) ∧ Below w.heap.size w w' := by
  have h := same_row A B c d la (lb.take la.length) t ht hla (by rw [List.length_take]; omega) ha (prow_take hb _)
  rw [List.length_take, Nat.min_eq_left hab] at h
  exact h
set_option maxRecDepth 100000 in
set_option maxHeartbeats 2000000 in
theorem walk_less (A B : Option Addr) (ca cb : Nat) (la lb a b : List KPart) (hla : la.length ≤ 9223372036854775807) (hlb : lb.length ≤ 9223372036854775807) (kA : la.length ≤ 1000) (kB : lb.length ≤ 1000) (ka : a.length ≤ 1000) (kb : b.length ≤ 1000) (w : World) (m : Int) (HM : Hid (w.cell? ⟨0, 0, none⟩ = some (.int .i64 m)))
    (RA : Hid (PRow w A la)) (sA : Hid (∀ p ∈ la, p.s.size ≤ 9223372036854775807)) (nA : Hid (Light la)) (RB : Hid (PRow w B lb)) (sB : Hid (∀ p ∈ lb, p.s.size ≤ 9223372036854775807)) (nB : Hid (Light lb))
    (eA : Hid (a = la.map pplain)) (eB : Hid (b = lb.map pplain)) (oA : Hid (∀ p ∈ la, p.ok)) (oB : Hid (∀ p ∈ lb, p.ok)) (pA : Hid (∀ p ∈ a, p.ok ∧ p.s.size ≤ 9223372036854775807)) (pB : Hid (∀ p ∈ b, p.ok ∧ p.s.size ≤ 9223372036854775807))
    (X Y : List UInt8) (E F : Int) (mA : Hid (mkGo [] a = (X, E))) (mB : Hid (mkGo [] b = (Y, F))) (hE : E = 0) (hF : F = 0) (qA : Hid (∀ p ∈ a, p.ok)) (plA : Hid (∀ p ∈ a, pplain p = p)) (t2 t3 : Bool) (h2 : Hid (t2 = true ↔ a = b)) (h3 : Hid (t3 = true ↔ a = b.take a.length)) (hab : a.length ≤ b.length)
    (e1 : Op.bytesLess X Y = pless a b) (e2 : (X == Y) = t2) (e3 : Lib.hasPrefix Y X = t3) :
    Calls Tryd.prog 4 #[.slice A la.length ca, .slice B lb.length cb] w fun e w' => e = .returned (.bool true) ∧ Below w.heap.size w w' := by
  subst hE hF
  have hbl := bs_list
  have hmin : min (a.length : Int) (b.length : Int) = a.length := by omega
  go_enter Tryd.func4, Tryd.ntmps4
  go_wp2_with (first
    | (go_at_call 7; refine (awake_any _ m HM.out).mono ?_; rintro e w1 ⟨rfl, hb⟩; have RA1 := prow_on RA hb; have RB1 := prow_on RB hb; have HM1 := cell_on HM hb)
    | (go_at_call 8; (with_reducible refine (light_yes A ca la hla nA.out RA1.out sA.out).mono ?_); rintro e w2 ⟨rfl, hb2⟩; have RA2 := prow_on RA1 hb2; have RB2 := prow_on RB1 hb2; have HM2 := cell_on HM1 hb2; have hb2 := hb.trans (hb2.mono hb.size))
    | (go_at_call 8; (with_reducible refine (light_yes B cb lb hlb nB.out RB2.out sB.out).mono ?_); rintro e w3 ⟨rfl, hb3⟩; have RA3 := prow_on RA2 hb3; have RB3 := prow_on RB2 hb3; have HM3 := cell_on HM2 hb3; have hb3 := hb2.trans (hb3.mono hb2.size))
    | (go_at_call 18; (with_reducible refine (plain_row A ca la a eA.out kA RA3.out oA.out).mono ?_); rintro e w4 ⟨⟨A1, c1, rfl, ra, hca⟩, hb4⟩; have Ra4 := Lib.hid ra; clear ra; have RB4 := prow_on RB3 hb4; have HM4 := cell_on HM3 hb4; have hb4 := hb3.trans (hb4.mono hb3.size))
    | (go_at_call 18; (with_reducible refine (plain_row B cb lb b eB.out kB RB4.out oB.out).mono ?_); rintro e w5 ⟨⟨B1, d1, rfl, rb, hcb⟩, hb5⟩; have Rb5 := Lib.hid rb; clear rb; have Ra5 := prow_on Ra4 hb5; have HM5 := cell_on HM4 hb5; have hb5 := hb4.trans (hb5.mono hb4.size))
    | (go_at_call 9; (with_reducible refine (make_row A1 c1 a X _ mA.out ka Ra5.out pA.out m HM5.out).mono ?_); rintro e w6 ⟨rfl, hb6⟩; have Ra6 := prow_on Ra5 hb6; have Rb6 := prow_on Rb5 hb6; have HM6 := cell_on HM5 hb6; have hb6 := hb5.trans (hb6.mono hb5.size))
    | (go_at_call 9; (with_reducible refine (make_row B1 d1 b Y _ mB.out kb Rb6.out pB.out m HM6.out).mono ?_); rintro e w7 ⟨rfl, hb7⟩; have Ra7 := prow_on Ra6 hb7; have Rb7 := prow_on Rb6 hb7; have HM7 := cell_on HM6 hb7; have hb7 := hb6.trans (hb7.mono hb6.size))
    | (go_at_call 12; (with_reducible refine (parts_row a X mA.out qA.out plA.out m HM7.out).mono ?_); rintro e w8 ⟨⟨L1, e1, rfl, rl⟩, hb8⟩; have Rl8 := Lib.hid rl; clear rl; have Ra8 := prow_on Ra7 hb8; have Rb8 := prow_on Rb7 hb8; have hb8 := hb7.trans (hb8.mono hb7.size))
    | (go_at_call 19; (with_reducible refine (same_cut A1 B1 c1 d1 a b t3 h3.out ka kb hab Ra8.out Rb8.out).mono ?_); rintro e w9 ⟨rfl, hb9⟩; have Ra9 := prow_on Ra8 hb9; have Rb9 := prow_on Rb8 hb9; have Rl9 := prow_on Rl8 hb9; have hb9 := hb8.trans (hb9.mono hb8.size))
    | (go_at_call 19; (with_reducible refine (same_row L1 A1 e1 c1 a a true (by simp) ka ka Rl9.out Ra9.out).mono ?_); rintro e w10 ⟨rfl, hb10⟩; have Ra10 := prow_on Ra9 hb10; have Rb10 := prow_on Rb9 hb10; have hb10 := hb9.trans (hb10.mono hb9.size))
    | (go_at_call 16; (with_reducible refine (less_any A1 B1 c1 d1 a b ka kb Ra10.out Rb10.out).mono ?_); rintro e w11 ⟨rfl, hb11⟩; have Ra11 := prow_on Ra10 hb11; have Rb11 := prow_on Rb10 hb11; have hb11 := hb10.trans (hb11.mono hb10.size))
    | (go_at_call 19; (with_reducible refine (same_row A1 B1 c1 d1 a b t2 h2.out ka kb Ra11.out Rb11.out).mono ?_); rintro e w12 ⟨rfl, hb12⟩; have hb12 := hb11.trans (hb12.mono hb11.size))
    | (go_at_call 20; (with_reducible refine (Tryd.strings_HasPrefix _ _ _).mono ?_); rintro e w13 ⟨rfl, rfl⟩))
  go_ret
  refine ⟨ret_bool ?_, hb12⟩
  show (Lib.hasPrefix Y X == t3) = true
  rw [e3]; simp
set_option maxRecDepth 100000 in
set_option maxHeartbeats 2000000 in
theorem walk_longer (A B : Option Addr) (ca cb : Nat) (la lb a b : List KPart) (hla : la.length ≤ 9223372036854775807) (hlb : lb.length ≤ 9223372036854775807) (kA : la.length ≤ 1000) (kB : lb.length ≤ 1000) (ka : a.length ≤ 1000) (kb : b.length ≤ 1000) (w : World) (m : Int) (HM : Hid (w.cell? ⟨0, 0, none⟩ = some (.int .i64 m)))
    (RA : Hid (PRow w A la)) (sA : Hid (∀ p ∈ la, p.s.size ≤ 9223372036854775807)) (nA : Hid (Light la)) (RB : Hid (PRow w B lb)) (sB : Hid (∀ p ∈ lb, p.s.size ≤ 9223372036854775807)) (nB : Hid (Light lb))
    (eA : Hid (a = la.map pplain)) (eB : Hid (b = lb.map pplain)) (oA : Hid (∀ p ∈ la, p.ok)) (oB : Hid (∀ p ∈ lb, p.ok)) (pA : Hid (∀ p ∈ a, p.ok ∧ p.s.size ≤ 9223372036854775807)) (pB : Hid (∀ p ∈ b, p.ok ∧ p.s.size ≤ 9223372036854775807))
    (X Y : List UInt8) (E F : Int) (mA : Hid (mkGo [] a = (X, E))) (mB : Hid (mkGo [] b = (Y, F))) (hE : E = 0) (hF : F = 0) (qA : Hid (∀ p ∈ a, p.ok)) (plA : Hid (∀ p ∈ a, pplain p = p)) (t2 : Bool) (h2 : Hid (t2 = true ↔ a = b)) (hab : b.length < a.length)
    (e1 : Op.bytesLess X Y = pless a b) (e2 : (X == Y) = t2) (e3 : Lib.hasPrefix Y X = false) :
    Calls Tryd.prog 4 #[.slice A la.length ca, .slice B lb.length cb] w fun e w' => e = .returned (.bool true) ∧ Below w.heap.size w w' := by
  subst hE hF
  have hbl := bs_list
  go_enter Tryd.func4, Tryd.ntmps4
  go_wp2_with (first
    | (go_at_call 7; refine (awake_any _ m HM.out).mono ?_; rintro e w1 ⟨rfl, hb⟩; have RA1 := prow_on RA hb; have RB1 := prow_on RB hb; have HM1 := cell_on HM hb)
    | (go_at_call 8; (with_reducible refine (light_yes A ca la hla nA.out RA1.out sA.out).mono ?_); rintro e w2 ⟨rfl, hb2⟩; have RA2 := prow_on RA1 hb2; have RB2 := prow_on RB1 hb2; have HM2 := cell_on HM1 hb2; have hb2 := hb.trans (hb2.mono hb.size))
    | (go_at_call 8; (with_reducible refine (light_yes B cb lb hlb nB.out RB2.out sB.out).mono ?_); rintro e w3 ⟨rfl, hb3⟩; have RA3 := prow_on RA2 hb3; have RB3 := prow_on RB2 hb3; have HM3 := cell_on HM2 hb3; have hb3 := hb2.trans (hb3.mono hb2.size))
    | (go_at_call 18; (with_reducible refine (plain_row A ca la a eA.out kA RA3.out oA.out).mono ?_); rintro e w4 ⟨⟨A1, c1, rfl, ra, hca⟩, hb4⟩; have Ra4 := Lib.hid ra; clear ra; have RB4 := prow_on RB3 hb4; have HM4 := cell_on HM3 hb4; have hb4 := hb3.trans (hb4.mono hb3.size))
    | (go_at_call 18; (with_reducible refine (plain_row B cb lb b eB.out kB RB4.out oB.out).mono ?_); rintro e w5 ⟨⟨B1, d1, rfl, rb, hcb⟩, hb5⟩; have Rb5 := Lib.hid rb; clear rb; have Ra5 := prow_on Ra4 hb5; have HM5 := cell_on HM4 hb5; have hb5 := hb4.trans (hb5.mono hb4.size))
    | (go_at_call 9; (with_reducible refine (make_row A1 c1 a X _ mA.out ka Ra5.out pA.out m HM5.out).mono ?_); rintro e w6 ⟨rfl, hb6⟩; have Ra6 := prow_on Ra5 hb6; have Rb6 := prow_on Rb5 hb6; have HM6 := cell_on HM5 hb6; have hb6 := hb5.trans (hb6.mono hb5.size))
    | (go_at_call 9; (with_reducible refine (make_row B1 d1 b Y _ mB.out kb Rb6.out pB.out m HM6.out).mono ?_); rintro e w7 ⟨rfl, hb7⟩; have Ra7 := prow_on Ra6 hb7; have Rb7 := prow_on Rb6 hb7; have HM7 := cell_on HM6 hb7; have hb7 := hb6.trans (hb7.mono hb6.size))
    | (go_at_call 12; (with_reducible refine (parts_row a X mA.out qA.out plA.out m HM7.out).mono ?_); rintro e w8 ⟨⟨L1, e1, rfl, rl⟩, hb8⟩; have Rl8 := Lib.hid rl; clear rl; have Ra8 := prow_on Ra7 hb8; have Rb8 := prow_on Rb7 hb8; have hb8 := hb7.trans (hb8.mono hb7.size))
    | (go_at_call 19; (with_reducible refine (same_row L1 A1 e1 c1 a a true (by simp) ka ka Rl8.out Ra8.out).mono ?_); rintro e w10 ⟨rfl, hb10⟩; have Ra10 := prow_on Ra8 hb10; have Rb10 := prow_on Rb8 hb10; have hb10 := hb8.trans (hb10.mono hb8.size))
    | (go_at_call 16; (with_reducible refine (less_any A1 B1 c1 d1 a b ka kb Ra10.out Rb10.out).mono ?_); rintro e w11 ⟨rfl, hb11⟩; have Ra11 := prow_on Ra10 hb11; have Rb11 := prow_on Rb10 hb11; have hb11 := hb10.trans (hb11.mono hb10.size))
    | (go_at_call 19; (with_reducible refine (same_row A1 B1 c1 d1 a b t2 h2.out ka kb Ra11.out Rb11.out).mono ?_); rintro e w12 ⟨rfl, hb12⟩; have hb12 := hb11.trans (hb12.mono hb11.size))
    | (go_at_call 20; (with_reducible refine (Tryd.strings_HasPrefix _ _ _).mono ?_); rintro e w13 ⟨rfl, rfl⟩))
  go_ret
  refine ⟨ret_bool ?_, hb12⟩
  show (!Lib.hasPrefix Y X) = true
  rw [e3]; rfl
end Go.Proofs.YtlpobkgmpegfjaaDoor.keyKeeps
