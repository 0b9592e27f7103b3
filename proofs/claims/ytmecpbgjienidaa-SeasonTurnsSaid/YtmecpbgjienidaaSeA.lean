/-
  season's turns, walked: turned, Turn. Conditions: the parts aren't beyond 2^53.
-/
import Derived.Test.YtmecpbgjienidaaSeMath
import Derived.Test.YtmecpbgjienidaaLaw
import Derived.WalkKit
import Derived.ProofKit
import Derived.OpenShut
import Derived.Lib.Hide
import Derived.Outline
import Derived.WalkMore
import Derived.ScopeJumps
import Derived.Laws.Entries
namespace Go.Proofs.Ytmecpbgjienidaa
open Go.RowKit
open Se Fl

theorem run_store_float (P : Program) (w : World) (a : Addr) (m : Mode) (k : FloatKind) (b : Nat) : (store a (.float k b) m).run P w = stored P w a (.float k b) m := run_store P w a _ m rfl
theorem run_store_complex (P : Program) (w : World) (a : Addr) (m : Mode) (k : FloatKind) (x y : Nat) : (store a (.complex k x y) m).run P w = stored P w a (.complex k x y) m := run_store P w a _ m rfl
/-- A complex number is answered; memory stays. -/
def CxQ (c : Cw) (w : World) (e : Ending) (w' : World) : Prop := e = .returned (.complex .f64 c.re c.im) ∧ w = w'
theorem ret_cx {c d : Cw} (h : c = d) : Ending.returned (.complex .f64 c.re c.im) = .returned (.complex .f64 d.re d.im) := by rw [h]
def TuJ (k : Int) (C : Cw) (w : World) (a' : Act) (w' : World) : Prop :=
  ∃ (c : Cw) (x y : Int) (n : Nat) (u6 u7 u8 u9 u10 u11 u12 u13 u14 u15 u16 u17 : Value), CF c x y ∧ x.natAbs ≤ 9007199254740992 ∧ y.natAbs ≤ 9007199254740992 ∧ n ≤ 3 ∧ turnW n c = C ∧ w = w' ∧
    a' = { tmps := #[.complex .f64 c.re c.im, .int .i64 k, undef, undef, .complex .f64 0 0, .int .i64 n, u6, u7, u8, u9, u10, u11, u12, u13, u14, u15, u16, u17, undef], defers := [] }
def tuMu (a' : Act) : Nat := (intOf (a'.tmps.getD 5 undef)).toNat
theorem sub_zero_any (t : TypeId) {b : Nat} {y : Int} (hb : Fl b y) (hy : y.natAbs ≤ 9007199254740992) :
    ∀ W : World, (binOp .sub t (.float .f64 0) (.float .f64 b)).run Try.prog W = .ok (.float .f64 (subZ b)) W :=
  fun W => run_float_arith W .sub t .f64 0 b _ (subZ_run hb hy)
set_option maxHeartbeats 1000000 in
theorem turned_any (k : Int) (h1 : -9223372036854775808 ≤ k) (h2 : k ≤ 9223372036854775807) (c : Cw) (x y : Int) (hc : CF c x y) (hx : x.natAbs ≤ 9007199254740992) (hy : y.natAbs ≤ 9007199254740992) (w : World) :
    Calls Try.prog 20 #[.complex .f64 c.re c.im, .int .i64 k] w (CxQ (turnW (k % 4).toNat c) w) := by
  have hand := and3 h1 h2
  have hn := turn_lt k
  generalize (k % 4).toNat = n at *
  go_enter Try.func20, Try.ntmps20
  go_wp2
  refine wp_scope_jumps 0 (TuJ k (turnW n c) w) (fun a' _ => tuMu a') rfl ?_ ?_
  · have HC := Lib.hid hc
    clear hc
    rcases Nat.eq_zero_or_pos n with rfl | hp
    · go_wp2
      go_step3
      go_wp2
      simp only [Exit.jump]
      go_ret
      exact ⟨rfl, rfl⟩
    · obtain ⟨m, rfl⟩ : ∃ m, n = m + 1 := ⟨n - 1, by omega⟩
      have hsub := sub_zero_any 33 HC.out.2 hy
      go_wp2
      go_step3
      go_wp2
      go_step3
      exact ⟨rfl, ⟨subZ c.im, c.re⟩, 0 - y, x, m, _, _, _, _, _, _, _, _, _, _, _, _, ⟨subZ_fl HC.out.2 hy, HC.out.1⟩, by omega, hx, by omega, rfl, rfl, rfl⟩
  · rintro a' w1 ⟨c, x, y, n, u6, u7, u8, u9, u10, u11, u12, u13, u14, u15, u16, u17, hc, hx, hy, hn, hX, rfl, rfl⟩
    have HC := Lib.hid hc
    have HX := Lib.hid hX
    clear hc hX
    clear hand
    rcases Nat.eq_zero_or_pos n with rfl | hp
    · go_wp2
      simp only [Exit.jump]
      go_ret
      exact ⟨ret_cx HX.out, rfl⟩
    · obtain ⟨m, rfl⟩ : ∃ m, n = m + 1 := ⟨n - 1, by omega⟩
      have hsub := sub_zero_any 33 HC.out.2 hy
      go_wp2
      go_step3
      exact ⟨rfl, ⟨⟨subZ c.im, c.re⟩, 0 - y, x, m, _, _, _, _, _, _, _, _, _, _, _, _, ⟨subZ_fl HC.out.2 hy, HC.out.1⟩, by omega, hx, by omega, HX.out, rfl, rfl⟩, by simp [tuMu, intOf]⟩
theorem turn_any (k : Int) (h1 : -9223372036854775808 ≤ k) (h2 : k ≤ 9223372036854775807) (w : World) :
    Calls Try.prog 15 #[.int .i64 k] w (CxQ (turnW (k % 4).toNat ⟨4607182418800017408, 0⟩) w) := by
  have c : ∀ W, Calls Try.prog 20 #[.complex .f64 4607182418800017408 0, .int .i64 k] W (CxQ (turnW (k % 4).toNat ⟨4607182418800017408, 0⟩) W) :=
    fun W => turned_any k h1 h2 ⟨4607182418800017408, 0⟩ 1 0 ⟨fl_one, fl_zero⟩ (by decide) (by decide) W
  replace c := Lib.hid c
  generalize turnW (k % 4).toNat ⟨4607182418800017408, 0⟩ = d at *
  go_enter Try.func15, Try.ntmps15
  go_wp2_with (go_at_call 20; (with_reducible refine (c.out _).mono ?_); rintro e w1 ⟨rfl, rfl⟩)
  go_ret
  exact ⟨rfl, rfl⟩
end Go.Proofs.Ytmecpbgjienidaa
