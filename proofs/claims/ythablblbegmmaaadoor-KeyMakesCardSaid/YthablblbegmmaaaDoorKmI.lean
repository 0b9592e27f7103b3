/-
  The law KeyMakes walked where something is heavy. Conditions: as each theorem states.
-/
import Derived.Test.YthablblbegmmaaaDoorKmH
namespace Go.Proofs.YthablblbegmmaaaDoor
open Go.RowKit
open Vi

set_option maxRecDepth 100000 in
set_option maxHeartbeats 2000000 in
theorem makes_heavy {w : World} (A B : Option Addr) (ca cb : Nat) (la lb : List KPart) (s : ByteArray) (hla : la.length ≤ 9223372036854775807) (hlb : lb.length ≤ 9223372036854775807) (hs : s.size ≤ 9223372036854775807) (m : Int) (hm : w.cell? ⟨0, 0, none⟩ = some (.int .i64 m))
    (ra : PRow w A la) (rb : PRow w B lb) (oA : ∀ p ∈ la, p.ok ∧ p.s.size ≤ 9223372036854775807) (oB : ∀ p ∈ lb, p.ok ∧ p.s.size ≤ 9223372036854775807) (h : ¬ (Light la ∧ Light lb ∧ s.size ≤ 300)) :
    Calls Tryd.prog 3 #[.slice A la.length ca, .slice B lb.length cb, .string s] w (KmPost w) := by
  have AW := Lib.hid fun (W : World) (h : Below w.heap.size w W) => awake_any W m (cell0_below hm h)
  have F0 := Lib.hid (Below.refl w.heap.size w)
  by_cases nA : Light la
  · have LA := Lib.hid fun (W : World) (h : Below w.heap.size w W) => light_yes A ca la hla nA (ra.below h (Nat.le_refl _)) (fun p hp => (oA p hp).2)
    by_cases nB : Light lb
    · have LB := Lib.hid fun (W : World) (h : Below w.heap.size w W) => light_yes B cb lb hlb nB (rb.below h (Nat.le_refl _)) (fun p hp => (oB p hp).2)
      have h3 : 300 < s.size := Classical.byContradiction fun h3 => h ⟨nA, nB, by omega⟩
      have e3 : decide (300 < (s.size : Int)) = true := decide_eq_true (by omega)
      clear h hm ra rb oA oB nA nB
      go_enter Tryd.func3, Tryd.ntmps3
      go_wp2_with (first
        | (go_at_call 5; have Z := F2; (with_reducible refine (LB.out _ F2.out).mono ?_); rintro e w3 ⟨rfl, b3⟩; have F3 := Lib.hid (ps_trans F2.out b3); clear b3)
        | (go_at_call 5; (with_reducible refine (LA.out _ F1.out).mono ?_); rintro e w2 ⟨rfl, b2⟩; have F2 := Lib.hid (ps_trans F1.out b2); clear b2)
        | (go_at_call 4; (with_reducible refine (AW.out _ F0.out).mono ?_); rintro e w1 ⟨rfl, b1⟩; have F1 := Lib.hid b1; clear b1))
      go_ret
      exact ⟨rfl, F3.out⟩
    · have LB := Lib.hid fun (W : World) (h : Below w.heap.size w W) => light_no B cb lb hlb nB (rb.below h (Nat.le_refl _)) (fun p hp => (oB p hp).2)
      clear h hm ra rb oA oB nA nB
      go_enter Tryd.func3, Tryd.ntmps3
      go_wp2_with (first
        | (go_at_call 5; have Z := F2; (with_reducible refine (LB.out _ F2.out).mono ?_); rintro e w3 ⟨rfl, b3⟩; have F3 := Lib.hid (ps_trans F2.out b3); clear b3)
        | (go_at_call 5; (with_reducible refine (LA.out _ F1.out).mono ?_); rintro e w2 ⟨rfl, b2⟩; have F2 := Lib.hid (ps_trans F1.out b2); clear b2)
        | (go_at_call 4; (with_reducible refine (AW.out _ F0.out).mono ?_); rintro e w1 ⟨rfl, b1⟩; have F1 := Lib.hid b1; clear b1))
      go_ret
      exact ⟨rfl, F3.out⟩
  · have LA := Lib.hid fun (W : World) (h : Below w.heap.size w W) => light_no A ca la hla nA (ra.below h (Nat.le_refl _)) (fun p hp => (oA p hp).2)
    clear h hm ra rb oA oB nA
    go_enter Tryd.func3, Tryd.ntmps3
    go_wp2_with (first
      | (go_at_call 5; (with_reducible refine (LA.out _ F1.out).mono ?_); rintro e w2 ⟨rfl, b2⟩; have F2 := Lib.hid (ps_trans F1.out b2); clear b2)
      | (go_at_call 4; (with_reducible refine (AW.out _ F0.out).mono ?_); rintro e w1 ⟨rfl, b1⟩; have F1 := Lib.hid b1; clear b1))
    go_ret
    exact ⟨rfl, F2.out⟩
end Go.Proofs.YthablblbegmmaaaDoor
