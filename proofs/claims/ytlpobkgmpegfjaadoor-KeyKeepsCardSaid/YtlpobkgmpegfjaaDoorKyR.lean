/-
  The law KeyKeeps, walked. Conditions: as each theorem states.
-/
import Derived.Test.YtlpobkgmpegfjaaDoorKyQ
import Derived.Test.YtlpobkgmpegfjaaDoorKyAwake
import Derived.Test.YtlpobkgmpegfjaaDoorKyF
namespace Go.Proofs.YtlpobkgmpegfjaaDoor.keyKeeps
open Go.RowKit
open Go.Proofs.YtlpobkgmpegfjaaDoor
open Vi

theorem light_yes {w : World} (A : Option Addr) (c : Nat) (l : List KPart) (hl : l.length ≤ 9223372036854775807) (h : Light l) (ha : PRow w A l) (hs : ∀ p ∈ l, p.s.size ≤ 9223372036854775807) :
    Calls Tryd.prog 8 #[.slice A l.length c] w fun e w' => e = .returned (.bool true) ∧ Below w.heap.size w w' := by
  refine (light_any A c l hl ha hs).mono ?_
  rintro e w' ⟨h1 | h1, hb⟩
  · exact ⟨h1.1, hb⟩
  · exact absurd h h1.2
theorem light_no {w : World} (A : Option Addr) (c : Nat) (l : List KPart) (hl : l.length ≤ 9223372036854775807) (h : ¬ Light l) (ha : PRow w A l) (hs : ∀ p ∈ l, p.s.size ≤ 9223372036854775807) :
    Calls Tryd.prog 8 #[.slice A l.length c] w fun e w' => e = .returned (.bool false) ∧ Below w.heap.size w w' := by
  refine (light_any A c l hl ha hs).mono ?_
  rintro e w' ⟨h1 | h1, hb⟩
  · exact absurd h1.2 h
  · exact ⟨h1.1, hb⟩
theorem prow_on {w w' : World} {A : Option Addr} {l : List KPart} (h : Hid (PRow w A l)) (hb : Below w.heap.size w w') : Hid (PRow w' A l) := h.out.below hb (Nat.le_refl _)
theorem cell_on {w w' : World} {m : Int} (h : Hid (w.cell? ⟨0, 0, none⟩ = some (.int .i64 m))) (hb : Below w.heap.size w w') : Hid (w'.cell? ⟨0, 0, none⟩ = some (.int .i64 m)) :=
  cell0_below h.out hb
set_option maxRecDepth 100000 in
theorem walk_first (A B : Option Addr) (ca cb : Nat) (la lb : List KPart) (hla : la.length ≤ 9223372036854775807) (hlb : lb.length ≤ 9223372036854775807) (w : World) (m : Int) (HM : Hid (w.cell? ⟨0, 0, none⟩ = some (.int .i64 m)))
    (RA : Hid (PRow w A la)) (sA : Hid (∀ p ∈ la, p.s.size ≤ 9223372036854775807)) (nA : Hid (¬ Light la)) :
    Calls Tryd.prog 4 #[.slice A la.length ca, .slice B lb.length cb] w fun e w' => e = .returned (.bool true) ∧ Below w.heap.size w w' := by
  go_enter Tryd.func4, Tryd.ntmps4
  go_wp2_with (first
    | (go_at_call 7; refine (awake_any _ m HM.out).mono ?_; rintro e w1 ⟨rfl, hb⟩; have RA1 := prow_on RA hb)
    | (go_at_call 8; (with_reducible refine (light_no A ca la hla nA.out RA1.out sA.out).mono ?_); rintro e w2 ⟨rfl, hb2⟩))
  go_ret
  exact ⟨rfl, hb.trans (hb2.mono hb.size)⟩
set_option maxRecDepth 100000 in
theorem walk_second (A B : Option Addr) (ca cb : Nat) (la lb : List KPart) (hla : la.length ≤ 9223372036854775807) (hlb : lb.length ≤ 9223372036854775807) (w : World) (m : Int) (HM : Hid (w.cell? ⟨0, 0, none⟩ = some (.int .i64 m)))
    (RA : Hid (PRow w A la)) (sA : Hid (∀ p ∈ la, p.s.size ≤ 9223372036854775807)) (nA : Hid (Light la)) (RB : Hid (PRow w B lb)) (sB : Hid (∀ p ∈ lb, p.s.size ≤ 9223372036854775807)) (nB : Hid (¬ Light lb)) :
    Calls Tryd.prog 4 #[.slice A la.length ca, .slice B lb.length cb] w fun e w' => e = .returned (.bool true) ∧ Below w.heap.size w w' := by
  go_enter Tryd.func4, Tryd.ntmps4
  go_wp2_with (first
    | (go_at_call 7; refine (awake_any _ m HM.out).mono ?_; rintro e w1 ⟨rfl, hb⟩; have RA1 := prow_on RA hb; have RB1 := prow_on RB hb)
    | (go_at_call 8; (with_reducible refine (light_yes A ca la hla nA.out RA1.out sA.out).mono ?_); rintro e w2 ⟨rfl, hb2⟩; have RB2 := prow_on RB1 hb2)
    | (go_at_call 8; (with_reducible refine (light_no B cb lb hlb nB.out RB2.out sB.out).mono ?_); rintro e w3 ⟨rfl, hb3⟩))
  go_ret
  exact ⟨rfl, hb.trans ((hb2.mono hb.size).trans (hb3.mono (hb.trans (hb2.mono hb.size)).size))⟩
theorem make_row {w : World} (A : Option Addr) (c : Nat) (l : List KPart) (X : List UInt8) (E : Int) (hX : mkGo [] l = (X, E)) (hl : l.length ≤ 1000) (hr : PRow w A l) (hok : ∀ p ∈ l, p.ok ∧ p.s.size ≤ 9223372036854775807) (m : Int) (hm : w.cell? ⟨0, 0, none⟩ = some (.int .i64 m)) :
    Calls Tryd.prog 9 #[.slice A l.length c] w fun e w' => e = .returned (.tuple #[.string (bs X), .int .i64 E]) ∧ Below w.heap.size w w' := by
  have h := make_any A c l hl hr hok m hm
  rw [hX] at h
  exact h
set_option maxRecDepth 100000 in
set_option maxHeartbeats 2000000 in
theorem walk_errA (A B : Option Addr) (ca cb : Nat) (la lb a b : List KPart) (hla : la.length ≤ 9223372036854775807) (hlb : lb.length ≤ 9223372036854775807) (kA : la.length ≤ 1000) (kB : lb.length ≤ 1000) (ka : a.length ≤ 1000) (kb : b.length ≤ 1000) (w : World) (m : Int) (HM : Hid (w.cell? ⟨0, 0, none⟩ = some (.int .i64 m)))
    (RA : Hid (PRow w A la)) (sA : Hid (∀ p ∈ la, p.s.size ≤ 9223372036854775807)) (nA : Hid (Light la)) (RB : Hid (PRow w B lb)) (sB : Hid (∀ p ∈ lb, p.s.size ≤ 9223372036854775807)) (nB : Hid (Light lb))
    (eA : Hid (a = la.map pplain)) (eB : Hid (b = lb.map pplain)) (oA : Hid (∀ p ∈ la, p.ok)) (oB : Hid (∀ p ∈ lb, p.ok)) (pA : Hid (∀ p ∈ a, p.ok ∧ p.s.size ≤ 9223372036854775807)) (pB : Hid (∀ p ∈ b, p.ok ∧ p.s.size ≤ 9223372036854775807))
    (X Y : List UInt8) (E F : Int) (mA : Hid (mkGo [] a = (X, E))) (mB : Hid (mkGo [] b = (Y, F))) (hE : (E != 0) = true) :
    Calls Tryd.prog 4 #[.slice A la.length ca, .slice B lb.length cb] w fun e w' => e = .returned (.bool true) ∧ Below w.heap.size w w' := by
  go_enter Tryd.func4, Tryd.ntmps4
  go_wp2_with (first
    | (go_at_call 7; refine (awake_any _ m HM.out).mono ?_; rintro e w1 ⟨rfl, hb⟩; have RA1 := prow_on RA hb; have RB1 := prow_on RB hb; have HM1 := cell_on HM hb)
    | (go_at_call 8; (with_reducible refine (light_yes A ca la hla nA.out RA1.out sA.out).mono ?_); rintro e w2 ⟨rfl, hb2⟩; have RA2 := prow_on RA1 hb2; have RB2 := prow_on RB1 hb2; have HM2 := cell_on HM1 hb2; have hb2 := hb.trans (hb2.mono hb.size))
    | (go_at_call 8; (with_reducible refine (light_yes B cb lb hlb nB.out RB2.out sB.out).mono ?_); rintro e w3 ⟨rfl, hb3⟩; have RA3 := prow_on RA2 hb3; have RB3 := prow_on RB2 hb3; have HM3 := cell_on HM2 hb3; have hb3 := hb2.trans (hb3.mono hb2.size))
    | (go_at_call 18; (with_reducible refine (plain_row A ca la a eA.out kA RA3.out oA.out).mono ?_); rintro e w4 ⟨⟨A1, c1, rfl, ra, hca⟩, hb4⟩; have Ra4 := Lib.hid ra; clear ra; have RB4 := prow_on RB3 hb4; have HM4 := cell_on HM3 hb4; have hb4 := hb3.trans (hb4.mono hb3.size))
    | (go_at_call 18; (with_reducible refine (plain_row B cb lb b eB.out kB RB4.out oB.out).mono ?_); rintro e w5 ⟨⟨B1, d1, rfl, rb, hcb⟩, hb5⟩; have Rb5 := Lib.hid rb; clear rb; have Ra5 := prow_on Ra4 hb5; have HM5 := cell_on HM4 hb5; have hb5 := hb4.trans (hb5.mono hb4.size))
    | (go_at_call 9; (with_reducible refine (make_row A1 c1 a X _ mA.out ka Ra5.out pA.out m HM5.out).mono ?_); rintro e w6 ⟨rfl, hb6⟩; have Ra6 := prow_on Ra5 hb6; have Rb6 := prow_on Rb5 hb6; have HM6 := cell_on HM5 hb6; have hb6 := hb5.trans (hb6.mono hb5.size))
    | (go_at_call 9; (with_reducible refine (make_row B1 d1 b Y _ mB.out kb Rb6.out pB.out m HM6.out).mono ?_); rintro e w7 ⟨rfl, hb7⟩; have Ra7 := prow_on Ra6 hb7; have Rb7 := prow_on Rb6 hb7; have HM7 := cell_on HM6 hb7; have hb7 := hb6.trans (hb7.mono hb6.size)))
  go_ret
  exact ⟨rfl, hb7⟩
set_option maxRecDepth 100000 in
set_option maxHeartbeats 2000000 in
theorem walk_errB (A B : Option Addr) (ca cb : Nat) (la lb a b : List KPart) (hla : la.length ≤ 9223372036854775807) (hlb : lb.length ≤ 9223372036854775807) (kA : la.length ≤ 1000) (kB : lb.length ≤ 1000) (ka : a.length ≤ 1000) (kb : b.length ≤ 1000) (w : World) (m : Int) (HM : Hid (w.cell? ⟨0, 0, none⟩ = some (.int .i64 m)))
    (RA : Hid (PRow w A la)) (sA : Hid (∀ p ∈ la, p.s.size ≤ 9223372036854775807)) (nA : Hid (Light la)) (RB : Hid (PRow w B lb)) (sB : Hid (∀ p ∈ lb, p.s.size ≤ 9223372036854775807)) (nB : Hid (Light lb))
    (eA : Hid (a = la.map pplain)) (eB : Hid (b = lb.map pplain)) (oA : Hid (∀ p ∈ la, p.ok)) (oB : Hid (∀ p ∈ lb, p.ok)) (pA : Hid (∀ p ∈ a, p.ok ∧ p.s.size ≤ 9223372036854775807)) (pB : Hid (∀ p ∈ b, p.ok ∧ p.s.size ≤ 9223372036854775807))
    (X Y : List UInt8) (E F : Int) (mA : Hid (mkGo [] a = (X, E))) (mB : Hid (mkGo [] b = (Y, F))) (hE : E = 0) (hF : (F != 0) = true) :
    Calls Tryd.prog 4 #[.slice A la.length ca, .slice B lb.length cb] w fun e w' => e = .returned (.bool true) ∧ Below w.heap.size w w' := by
  subst hE
  go_enter Tryd.func4, Tryd.ntmps4
  go_wp2_with (first
    | (go_at_call 7; refine (awake_any _ m HM.out).mono ?_; rintro e w1 ⟨rfl, hb⟩; have RA1 := prow_on RA hb; have RB1 := prow_on RB hb; have HM1 := cell_on HM hb)
    | (go_at_call 8; (with_reducible refine (light_yes A ca la hla nA.out RA1.out sA.out).mono ?_); rintro e w2 ⟨rfl, hb2⟩; have RA2 := prow_on RA1 hb2; have RB2 := prow_on RB1 hb2; have HM2 := cell_on HM1 hb2; have hb2 := hb.trans (hb2.mono hb.size))
    | (go_at_call 8; (with_reducible refine (light_yes B cb lb hlb nB.out RB2.out sB.out).mono ?_); rintro e w3 ⟨rfl, hb3⟩; have RA3 := prow_on RA2 hb3; have RB3 := prow_on RB2 hb3; have HM3 := cell_on HM2 hb3; have hb3 := hb2.trans (hb3.mono hb2.size))
    | (go_at_call 18; (with_reducible refine (plain_row A ca la a eA.out kA RA3.out oA.out).mono ?_); rintro e w4 ⟨⟨A1, c1, rfl, ra, hca⟩, hb4⟩; have Ra4 := Lib.hid ra; clear ra; have RB4 := prow_on RB3 hb4; have HM4 := cell_on HM3 hb4; have hb4 := hb3.trans (hb4.mono hb3.size))
    | (go_at_call 18; (with_reducible refine (plain_row B cb lb b eB.out kB RB4.out oB.out).mono ?_); rintro e w5 ⟨⟨B1, d1, rfl, rb, hcb⟩, hb5⟩; have Rb5 := Lib.hid rb; clear rb; have Ra5 := prow_on Ra4 hb5; have HM5 := cell_on HM4 hb5; have hb5 := hb4.trans (hb5.mono hb4.size))
    | (go_at_call 9; (with_reducible refine (make_row A1 c1 a X _ mA.out ka Ra5.out pA.out m HM5.out).mono ?_); rintro e w6 ⟨rfl, hb6⟩; have Ra6 := prow_on Ra5 hb6; have Rb6 := prow_on Rb5 hb6; have HM6 := cell_on HM5 hb6; have hb6 := hb5.trans (hb6.mono hb5.size))
    | (go_at_call 9; (with_reducible refine (make_row B1 d1 b Y _ mB.out kb Rb6.out pB.out m HM6.out).mono ?_); rintro e w7 ⟨rfl, hb7⟩; have Ra7 := prow_on Ra6 hb7; have Rb7 := prow_on Rb6 hb7; have HM7 := cell_on HM6 hb7; have hb7 := hb6.trans (hb7.mono hb6.size)))
  go_ret
  exact ⟨rfl, hb7⟩
end Go.Proofs.YtlpobkgmpegfjaaDoor.keyKeeps
