/-
  The law EditBytes walked where something is heavy. Conditions: as each theorem states.
-/
import Derived.Test.YtomokbcamfmfcaaDoorEdBy
namespace Go.Proofs.YtomokbcamfmfcaaDoor.Ed
open Go.RowKit
open Go.Proofs.YtomokbcamfmfcaaDoor
open Vi Ba

theorem bytes_heavy {w : World} {e : Edt} {A G : Option Addr} {c d : Nat} {s : ByteArray} (H : Lies w e A G) (ht : Tab w) (hs : s.size ≤ 9223372036854775807) (h : ¬ (okE e ∧ s.size ≤ 5000)) :
    Calls Tryd.prog 5 #[e.val A c G d, .string s] w (BoPost w true) := by
  have AW := Lib.hid fun (W : World) (h : Below w.heap.size w W) => awake_any W (ht.on h)
  by_cases h1 : okE e
  · have LA := Lib.hid fun (W : World) (h : Below w.heap.size w W) => light_yes c d (H.on h) h1
    have h3 : 5000 < s.size := Classical.byContradiction fun h3 => h ⟨h1, by omega⟩
    have e3 : decide (5000 < (s.size : Int)) = true := decide_eq_true (by omega)
    clear h1
    obtain ⟨log, next, seq, come, go⟩ := e
    clear H ht h
    unfold Edt.val at *
    simp only at *
    have W0 : Hid (Below w.heap.size w (w.alloc (.cells #[.int .u64 log, .int .u64 next, .int .u64 seq, .slice A come.length c, .slice G go.length d] 31 (0, 0)))) := (Below.refl _ _).alloc (Nat.le_refl _) _
    go_enter Tryd.func5, Tryd.ntmps5
    go_wp2_with (first
      | (go_at_call 11; (with_reducible refine (LA.out _ (on_below F1.out)).mono ?_); rintro e w2 ⟨rfl, b2⟩; have F2 := Lib.hid (on_step F1.out b2); obtain ⟨f0, f1, f2, f3, f4⟩ := on_box F2.out; clear b2)
      | (go_at_call 6; (with_reducible refine (AW.out _ W0.out).mono ?_); rintro e w1 ⟨rfl, b1⟩; have F1 := Lib.hid (on_start b1); obtain ⟨a0, a1, a2, a3, a4⟩ := on_box F1.out; clear b1))
    go_ret
    exact ⟨rfl, on_below F2.out⟩
  · have LA := Lib.hid fun (W : World) (h : Below w.heap.size w W) => light_no c d (H.on h) h1
    clear h1
    obtain ⟨log, next, seq, come, go⟩ := e
    clear H ht h
    unfold Edt.val at *
    simp only at *
    have W0 : Hid (Below w.heap.size w (w.alloc (.cells #[.int .u64 log, .int .u64 next, .int .u64 seq, .slice A come.length c, .slice G go.length d] 31 (0, 0)))) := (Below.refl _ _).alloc (Nat.le_refl _) _
    go_enter Tryd.func5, Tryd.ntmps5
    go_wp2_with (first
      | (go_at_call 11; (with_reducible refine (LA.out _ (on_below F1.out)).mono ?_); rintro e w2 ⟨rfl, b2⟩; have F2 := Lib.hid (on_step F1.out b2); obtain ⟨f0, f1, f2, f3, f4⟩ := on_box F2.out; clear b2)
      | (go_at_call 6; (with_reducible refine (AW.out _ W0.out).mono ?_); rintro e w1 ⟨rfl, b1⟩; have F1 := Lib.hid (on_start b1); obtain ⟨a0, a1, a2, a3, a4⟩ := on_box F1.out; clear b1))
    go_ret
    exact ⟨rfl, on_below F2.out⟩
end Go.Proofs.YtomokbcamfmfcaaDoor.Ed
