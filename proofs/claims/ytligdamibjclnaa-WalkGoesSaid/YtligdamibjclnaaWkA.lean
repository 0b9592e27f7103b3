/-
  A walk's steps (turned, least, greatest, begin, Then), walked. Conditions: as each theorem states.
-/
import Derived.Test.YtligdamibjclnaaWkMath
import Derived.Test.YtligdamibjclnaaLaw
import Derived.WalkKit
import Derived.ProofKit
import Derived.OpenShut
import Derived.Lib.Hide
import Derived.Outline
import Derived.Laws.Entries
namespace Go.Proofs.Ytligdamibjclnaa.Wk
open Go.RowKit
open Go.Proofs.Ytligdamibjclnaa
open Se Fl

theorem run_store_float (P : Program) (w : World) (a : Addr) (m : Mode) (k : FloatKind) (b : Nat) : (store a (.float k b) m).run P w = stored P w a (.float k b) m := run_store P w a _ m rfl
theorem run_store_complex (P : Program) (w : World) (a : Addr) (m : Mode) (k : FloatKind) (x y : Nat) : (store a (.complex k x y) m).run P w = stored P w a (.complex k x y) m := run_store P w a _ m rfl
attribute [local go_sem] run_store_float run_store_complex
/-- A complex number is answered; memory stays. -/
def CxQ (c : Cw) (w : World) (e : Ending) (w' : World) : Prop := e = .returned (.complex .f64 c.re c.im) ∧ w = w'
theorem turned_any (c : Cw) (x y : Int) (hc : CF c x y) (hx : x.natAbs ≤ 9007199254740992) (hy : y.natAbs ≤ 9007199254740992) (last price : Int) (w : World) :
    Calls Try.prog 25 #[.complex .f64 c.re c.im, .int .i64 last, .int .i64 price] w (CxQ (turnTo c last price) w) := by
  have s1 : ∀ W, (binOp .sub 48 (.float .f64 0) (.float .f64 c.im)).run Try.prog W = .ok (.float .f64 (subZ c.im)) W := fun W => run_float_arith W .sub _ .f64 0 _ _ (subZ_run hc.2 hy)
  have s2 : ∀ W, (binOp .sub 48 (.float .f64 0) (.float .f64 c.re)).run Try.prog W = .ok (.float .f64 (subZ c.re)) W := fun W => run_float_arith W .sub _ .f64 0 _ _ (subZ_run hc.1 hx)
  clear hc hx hy
  by_cases h1 : last < price
  · have e : turnTo c last price = ⟨subZ c.im, c.re⟩ := by unfold turnTo; rw [if_pos h1]
    rw [e]
    clear e
    go_enter Try.func25, Try.ntmps25
    go_wp2
    go_ret
    exact ⟨rfl, rfl⟩
  · by_cases h2 : price < last
    · have e : turnTo c last price = ⟨c.im, subZ c.re⟩ := by unfold turnTo; rw [if_neg h1, if_pos h2]
      rw [e]
      clear e
      go_enter Try.func25, Try.ntmps25
      go_wp2
      go_ret
      exact ⟨rfl, rfl⟩
    · have e : turnTo c last price = c := by unfold turnTo; rw [if_neg h1, if_neg h2]
      rw [e]
      clear e
      go_enter Try.func25, Try.ntmps25
      go_wp2
      go_ret
      exact ⟨rfl, rfl⟩
theorem least_any {a b : Cw} {x y v u : Int} (ha : CF a x y) (hb : CF b v u) (w : World) :
    Calls Try.prog 26 #[.complex .f64 a.re a.im, .complex .f64 b.re b.im] w (CxQ ⟨minW a.re b.re, minW a.im b.im⟩ w) := by
  have r1 := fun ts t W => run_minW (P := Try.prog) ha.1 hb.1 ts t W
  have r2 := fun ts t W => run_minW (P := Try.prog) ha.2 hb.2 ts t W
  clear ha hb
  go_enter Try.func26, Try.ntmps26
  go_wp2
  go_ret
  exact ⟨rfl, rfl⟩
theorem greatest_any {a b : Cw} {x y v u : Int} (ha : CF a x y) (hb : CF b v u) (w : World) :
    Calls Try.prog 27 #[.complex .f64 a.re a.im, .complex .f64 b.re b.im] w (CxQ ⟨maxW a.re b.re, maxW a.im b.im⟩ w) := by
  have r1 := fun ts t W => run_maxW (P := Try.prog) ha.1 hb.1 ts t W
  have r2 := fun ts t W => run_maxW (P := Try.prog) ha.2 hb.2 ts t W
  clear ha hb
  go_enter Try.func27, Try.ntmps27
  go_wp2
  go_ret
  exact ⟨rfl, rfl⟩
/-- A walk as a value. -/
def pcs (p : Pw) : Array Value := #[.complex .f64 p.pos.re p.pos.im, .complex .f64 p.hd.re p.hd.im, .int .i64 p.st, .complex .f64 p.lo.re p.lo.im, .complex .f64 p.hi.re p.hi.im]
def pv (p : Pw) : Value := .agg #[.complex .f64 p.pos.re p.pos.im, .complex .f64 p.hd.re p.hd.im, .int .i64 p.st, .complex .f64 p.lo.re p.lo.im, .complex .f64 p.hi.re p.hi.im]
theorem begin_any (w : World) : Calls Try.prog 17 #[] w fun e w' => e = .returned (pv begW) ∧ Below w.heap.size w w' := by
  go_enter Try.func17, Try.ntmps17
  go_wp2
  refine bodyPost_ret (v := pv begW) ?_ rfl ⟨rfl, (Below.refl _ w).alloc (Nat.le_refl _) _⟩
  simp [results, Try.results17, go_sem]; rfl
theorem begin_x (w : World) : Calls Try.prog 17 #[] w fun e w' => e = .returned (.agg #[.complex .f64 0 0, .complex .f64 4607182418800017408 0, .int .i64 0, .complex .f64 0 0, .complex .f64 0 0]) ∧ Below w.heap.size w w' := begin_any w
/-- A trade as a value. -/
def tv (mk tk price size : Int) : Value := .agg #[.int .u64 mk, .int .u64 tk, .int .i64 price, .int .i64 size]
set_option maxHeartbeats 2000000 in
theorem then_any {p : Pw} {z : Pz} {k : Nat} (h : PF p z k) (hk : k ≤ 1000) (last mk tk price size : Int) (w : World) :
    Calls Try.prog 16 #[.agg #[.complex .f64 p.pos.re p.pos.im, .complex .f64 p.hd.re p.hd.im, .int .i64 p.st, .complex .f64 p.lo.re p.lo.im, .complex .f64 p.hi.re p.hi.im], .int .i64 last, .agg #[.int .u64 mk, .int .u64 tk, .int .i64 price, .int .i64 size]] w
      fun e w' => e = .returned (pv (thenW p last price size)) ∧ Below w.heap.size w w' := by
  obtain ⟨hq, hs⟩ := then_pf h hk last price size
  have ct := Lib.hid (fun W => turned_any p.hd _ _ h.hd (by have := t_small z.h h.h4; omega) (by have := t_small z.h h.h4; omega) last price W)
  have cl := Lib.hid (fun W => least_any h.lo hq.pos W)
  have cg := Lib.hid (fun W => greatest_any h.hi hq.pos W)
  have hcl : (if (if size > 0 then size else (0 : Int)) > 1000 then (1000 : Int) else (if size > 0 then size else 0)) = clamp size := by unfold clamp; split <;> split <;> omega
  have hst := h.st
  obtain ⟨g1, g2, g3, g4⟩ := hs
  have hlo : (thenW p last price size).lo = ⟨minW p.lo.re (thenW p last price size).pos.re, minW p.lo.im (thenW p last price size).pos.im⟩ := rfl
  have hhi : (thenW p last price size).hi = ⟨maxW p.hi.re (thenW p last price size).pos.re, maxW p.hi.im (thenW p last price size).pos.im⟩ := rfl
  have hss : (thenW p last price size).st = p.st + 1 := rfl
  unfold pv
  generalize thenW p last price size = q at *
  rw [hlo, hhi, hss]
  have r1 : ∀ W, (binOp .mul 48 (.float .f64 q.hd.re) (.float .f64 (floatOfInt .f64 (clamp size)))).run Try.prog W = .ok (.float .f64 (mulF q.hd.re (floatOfInt .f64 (clamp size)))) W := fun W => run_float_arith W .mul _ _ _ _ _ g2
  have r2 : ∀ W, (binOp .mul 48 (.float .f64 q.hd.im) (.float .f64 (floatOfInt .f64 (clamp size)))).run Try.prog W = .ok (.float .f64 (mulF q.hd.im (floatOfInt .f64 (clamp size)))) W := fun W => run_float_arith W .mul _ _ _ _ _ g3
  have r3 : ∀ W, (binOp .add 24 (.complex .f64 p.pos.re p.pos.im) (.complex .f64 (mulF q.hd.re (floatOfInt .f64 (clamp size))) (mulF q.hd.im (floatOfInt .f64 (clamp size))))).run Try.prog W = .ok (.complex .f64 q.pos.re q.pos.im) W := fun W => run_complex_sum W .add (.inl rfl) _ _ _ _ _ _ _ _ g4
  have hst1 : 0 ≤ p.st := by omega
  have hst2 : p.st ≤ 1000 := by omega
  have mx : ∀ ts t W, (Builtin.max_ ts t #[.int .i64 size, .int .i64 0]).run Try.prog W = .ok (.int .i64 (max size 0)) W := fun ts t W => by
    rw [run_max_int2 W ts t .i64 .i64]; congr 2; split <;> omega
  have mn : ∀ ts t W, (Builtin.min_ ts t #[.int .i64 (max size 0), .int .i64 1000]).run Try.prog W = .ok (.int .i64 (clamp size)) W := fun ts t W => by
    rw [run_min_int2 W ts t .i64 .i64]; unfold clamp; congr 2; split <;> omega
  clear g2 g3 g4 h hq hlo hhi hss hst hk hcl
  have HG := Lib.hid g1
  clear g1
  generalize clamp size = n at *
  by_cases h0 : 0 < p.st
  · have e1 : q.hd = turnTo p.hd last price := by rw [HG.out, if_pos h0]
    rw [← e1] at ct
    clear e1
    go_enter Try.func16, Try.ntmps16
    go_wp2_with (first
      | (go_at_call 25; (with_reducible refine (ct.out _).mono ?_); rintro e w1 ⟨rfl, rfl⟩)
      | (go_at_call 26; (with_reducible refine (cl.out _).mono ?_); rintro e w1 ⟨rfl, rfl⟩)
      | (go_at_call 27; (with_reducible refine (cg.out _).mono ?_); rintro e w1 ⟨rfl, rfl⟩))
    refine bodyPost_ret (v := .agg #[.complex .f64 q.pos.re q.pos.im, .complex .f64 q.hd.re q.hd.im, .int .i64 (p.st + 1), .complex .f64 (minW p.lo.re q.pos.re) (minW p.lo.im q.pos.im), .complex .f64 (maxW p.hi.re q.pos.re) (maxW p.hi.im q.pos.im)]) ?_ rfl ⟨rfl, (((Below.refl _ w).alloc (Nat.le_refl _) _).alloc (by simp) _).alloc (by simp; omega) _⟩
    simp [results, Try.results16, go_sem]
  · have e1 : q.hd = p.hd := by rw [HG.out, if_neg h0]
    rw [e1] at r1 r2 r3 ⊢
    have h0' : p.st ≤ 0 := by omega
    clear e1 HG ct
    go_enter Try.func16, Try.ntmps16
    go_wp2_with (first
      | (go_at_call 26; (with_reducible refine (cl.out _).mono ?_); rintro e w1 ⟨rfl, rfl⟩)
      | (go_at_call 27; (with_reducible refine (cg.out _).mono ?_); rintro e w1 ⟨rfl, rfl⟩))
    refine bodyPost_ret (v := .agg #[.complex .f64 q.pos.re q.pos.im, .complex .f64 p.hd.re p.hd.im, .int .i64 (p.st + 1), .complex .f64 (minW p.lo.re q.pos.re) (minW p.lo.im q.pos.im), .complex .f64 (maxW p.hi.re q.pos.re) (maxW p.hi.im q.pos.im)]) ?_ rfl ⟨rfl, (((Below.refl _ w).alloc (Nat.le_refl _) _).alloc (by simp) _).alloc (by simp; omega) _⟩
    simp [results, Try.results16, go_sem]
theorem then_x {p : Pw} {z : Pz} {k : Nat} (h : PF p z k) (hk : k ≤ 1000) (last mk tk price size : Int) (w : World) :
    Calls Try.prog 16 #[.agg #[.complex .f64 p.pos.re p.pos.im, .complex .f64 p.hd.re p.hd.im, .int .i64 p.st, .complex .f64 p.lo.re p.lo.im, .complex .f64 p.hi.re p.hi.im], .int .i64 last, .agg #[.int .u64 mk, .int .u64 tk, .int .i64 price, .int .i64 size]] w
      fun e w' => e = .returned (.agg #[.complex .f64 (thenW p last price size).pos.re (thenW p last price size).pos.im, .complex .f64 (thenW p last price size).hd.re (thenW p last price size).hd.im, .int .i64 (thenW p last price size).st, .complex .f64 (thenW p last price size).lo.re (thenW p last price size).lo.im, .complex .f64 (thenW p last price size).hi.re (thenW p last price size).hi.im]) ∧ Below w.heap.size w w' :=
  then_any h hk last mk tk price size w
end Go.Proofs.Ytligdamibjclnaa.Wk
