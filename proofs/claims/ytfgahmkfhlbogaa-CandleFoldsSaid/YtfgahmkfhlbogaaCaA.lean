/-
  One candle, a tick told, two candles joined: walked. Conditions: the numbers are of 64 bits.
-/
import Derived.Test.YtfgahmkfhlbogaaCaMath
import Derived.Test.YtfgahmkfhlbogaaHx
import Derived.Test.YtfgahmkfhlbogaaAmA
import Derived.Test.YtfgahmkfhlbogaaTrd
import Derived.Defers
import Derived.Recover
import Derived.Laws.Pointers
import Derived.Deep.QuietTactic
import Derived.BigQuiet
namespace Go.Proofs.Ytfgahmkfhlbogaa.Ca
open Go.RowKit
open Go.Proofs.Ytfgahmkfhlbogaa Go.Proofs.Ytfgahmkfhlbogaa.Hx

def cv (c : Cd) : Value := .agg #[.int .i64 c.f, .int .i64 c.h, .int .i64 c.l, .int .i64 c.a, .int .i64 c.s, .int .i64 c.n]
def tv (t : Tk) : Value := .agg #[.int .i64 t.p, .int .i64 t.s]
def ccs (c : Cd) : Array Value := #[.int .i64 c.f, .int .i64 c.h, .int .i64 c.l, .int .i64 c.a, .int .i64 c.s, .int .i64 c.n]
theorem one_any (t : Tk) (w : World) :
    Calls Try.prog 16 #[.int .i64 t.p, .int .i64 t.s] w fun e w' => e = .returned (cv (one t)) ∧ Below w.heap.size w w' := by
  go_enter Try.func16, Try.ntmps16
  go_wp2
  refine bodyPost_ret (v := cv (one t)) ?_ rfl ⟨rfl, ?_⟩
  · simp [cv, one, results, Try.results16, go_sem]
  · exact (Below.refl _ w).alloc (Nat.le_refl _) _
theorem at_any (t : Tk) (w : World) :
    Calls Try.prog 48 #[.agg #[.int .i64 t.p, .int .i64 t.s]] w fun e w' => e = .returned (.tuple #[.int .i64 t.p, .int .i64 t.s]) ∧ Below w.heap.size w w' := by
  go_enter Try.func48, Try.ntmps48
  go_wp2
  go_quiet (fail)
  go_wp2
  go_ret2
  exact ⟨rfl, (Below.refl _ w).trans ⟨rfl, rfl, rfl, by simp, fun k hk => Below.heap_alloc _ _ k hk⟩⟩
theorem told1_idle (w : World) :
    CallsD Try.prog 24 #[] .returning w fun e u' w' => e = .returned (.tuple #[]) ∧ u' = .returning ∧ w' = w := by
  refine callsD_of_wpS Try.func24 rfl fun c₀ cs hu => ?_
  apply wpS_region
  simp [wpOpsS, go_sem, recoverD, hu, Try.ntmps24, Exit.thenS]
  cases c₀
  simp_all [bodyPostS, results, Try.results24]
theorem told_any (t : Tk) (w : World) :
    Calls Try.prog 17 #[.iface 32 (tv t)] w fun e w' => e = .returned (.tuple #[.int .i64 t.p, .int .i64 t.s]) ∧ Below w.heap.size w w' := by
  have hm : ∀ w : World, (method 194 32 (.agg #[.int .i64 t.p, .int .i64 t.s]) "At").run Try.prog w = .ok (48, .agg #[.int .i64 t.p, .int .i64 t.s]) w := fun _ => by kernel_rfl
  have ca := Lib.hid (fun W => at_any t W)
  unfold tv
  go_enter_defers Try.func17, Try.ntmps17
  go_wp2_with (go_at_call 48; (with_reducible refine (ca.out _).mono ?_); rintro e w1 ⟨rfl, hb⟩)
  refine leaves_cons (f := 24) (args := #[]) (by simp) (by simp [go_sem]) ?_
  refine (told1_idle _).mono ?_
  rintro e u' w'' ⟨rfl, rfl, rfl⟩
  simp [Leaves, settle, results, Try.results17, go_sem]
  exact hb
theorem of1_any (t : Tk) (w : World) :
    Calls Try.prog 15 #[.agg #[.int .i64 t.p, .int .i64 t.s]] w fun e w' => e = .returned (cv (one t)) ∧ Below w.heap.size w w' := by
  have ct := Lib.hid (fun W => told_any t W)
  have co := Lib.hid (fun W => one_any t W)
  unfold tv at ct
  unfold cv at co ⊢
  generalize one t = c at *
  go_enter Try.func15, Try.ntmps15
  have B0 := Lib.hid (hp_second w (.cells #[.int .i64 t.p, .int .i64 t.s] 32) (.cells (ccs z0) 42 (0, 0)))
  have W0 : Hid (Below w.heap.size w ((w.alloc (.cells #[.int .i64 t.p, .int .i64 t.s] 32)).alloc (.cells (ccs z0) 42))) := Lib.hid (((Below.refl _ w).alloc (Nat.le_refl _) _).alloc (by simp) _)
  unfold ccs z0 at B0 W0
  go_wp2_with (first
    | (go_at_call 17; (with_reducible refine (ct.out _).mono ?_); rintro e w1 ⟨rfl, hb1⟩; have B1 := Lib.hid (hp_on B0.out hb1); have W1 := Lib.hid (below_on W0.out (by simp; omega) hb1); clear hb1)
    | (go_at_call 16; (with_reducible refine (co.out _).mono ?_); rintro e w2 ⟨rfl, hb2⟩; have B2 := Lib.hid (hp_on B1.out hb2); have W2 := Lib.hid (below_on W1.out W1.out.size hb2); clear hb2; obtain ⟨⟨d0, d1, d2, d3, d4, d5⟩, f0, f1, f2, f3, f4, f5⟩ := cell6 B2.out))
  refine bodyPost_ret (v := .agg #[.int .i64 c.f, .int .i64 c.h, .int .i64 c.l, .int .i64 c.a, .int .i64 c.s, .int .i64 c.n]) ?_ rfl ⟨rfl, ?_⟩
  · simp [results, Try.results15, go_sem, d0, d1, d2, d3, d4, d5, f0, f1, f2, f3, f4, f5]
  · exact (((((W2.out.setCell (by simp) _).setCell (by simp) _).setCell (by simp) _).setCell (by simp) _).setCell (by simp) _).setCell (by simp) _
theorem fold1_any (c : Cd) (w : World) :
    Calls Try.prog 20 #[.agg #[.int .i64 c.f, .int .i64 c.h, .int .i64 c.l, .int .i64 c.a, .int .i64 c.s, .int .i64 c.n]] w fun e w' => e = .returned (cv c) ∧ Below w.heap.size w w' := by
  go_enter Try.func20, Try.ntmps20
  go_wp2
  refine bodyPost_ret (v := cv c) ?_ rfl ⟨rfl, ?_⟩
  · simp [cv, results, Try.results20, go_sem]
  · exact ((Below.refl _ w).alloc (Nat.le_refl _) _).alloc (by simp) _
end Go.Proofs.Ytfgahmkfhlbogaa.Ca
