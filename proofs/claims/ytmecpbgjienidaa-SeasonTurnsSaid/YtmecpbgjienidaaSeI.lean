/-
  math.Trunc and math.Abs of whole floats; whether a part fits (season's fits), walked. Conditions: as each theorem states.
-/
import Derived.Test.YtmecpbgjienidaaSeA
import Derived.Laws.Externs
namespace Go.Proofs.Ytmecpbgjienidaa
open Go.RowKit
open Se Fl
attribute [local go_sem] run_store_float run_store_complex

/-- A whole float, cut: itself. -/
def truncW (b : Nat) : Nat := Ieee.double.write ((Ieee.double.read b).integral .zero)
theorem truncW_fl {b : Nat} {z : Int} (h : Fl b z) (hz : z.natAbs ≤ 9007199254740992) : Fl (truncW b) z := by
  obtain ⟨s, m, p, e, hv⟩ := h
  unfold truncW
  rw [e]
  refine fl_write (s := s) (m := Ieee.Toward.zero.cut s (m <<< p.toNat) (-p).toNat) (p := 0) ?_ hz
  have h2 := toInt_va hv
  have h3 : some (Ieee.signed s (Ieee.Toward.zero.cut s (m <<< p.toNat) (-p).toNat) 0) = some z := h2
  injection h3 with h3
  rw [signed_eq, Nat.pow_zero] at h3
  exact ⟨0, 0, rfl, by rw [Nat.pow_zero]; omega⟩
def absW (b : Nat) : Nat := b % 9223372036854775808
theorem absW_fl {b : Nat} {z : Int} (h : Fl b z) : Fl (absW b) z.natAbs := by
  obtain ⟨s, m, p, e, t, u, hu, hv⟩ := h
  have hv2 := congrArg Int.natAbs hv
  rw [Int.natAbs_mul, Int.natAbs_mul, sg_natAbs, Int.natAbs_natCast, Int.natAbs_natCast] at hv2
  refine ⟨false, m, p, ?_, t, u, hu, by show (m : Int) * _ = _; exact_mod_cast hv2⟩
  unfold absW
  have hsw : Ieee.double.signWeight = 9223372036854775808 := by decide
  have k1 : b % 9223372036854775808 / 9223372036854775808 % 2 = 0 := by omega
  have k2 : b % 9223372036854775808 % 9223372036854775808 = b % 9223372036854775808 := by omega
  unfold Ieee.Format.read at e ⊢
  simp only [hsw, k1, k2] at e ⊢
  split at e
  · rename_i h1; rw [if_pos h1]; injection e with _ e1 e2; simp [e1, e2]
  · rename_i h1; rw [if_neg h1]
    split at e
    · rename_i h2; rw [if_pos h2]; injection e with _ e1 e2; simp [e1, e2]
    · rename_i h2
      split at e <;> cases e
theorem andnot_abs (b : Nat) : bits .andNot .u64 (b : Int) 9223372036854775808 = ((absW b : Nat) : Int) := by
  have h : bits .andNot .u64 (b : Int) 9223372036854775808 = IntKind.u64.wrap ((BitVec.ofInt 64 (b : Int) &&& ~~~ BitVec.ofInt 64 9223372036854775808).toNat : Int) := rfl
  rw [h, BitVec.toNat_and]
  have e3 : (~~~ BitVec.ofInt 64 9223372036854775808).toNat = 2 ^ 63 - 1 := by decide
  rw [e3, Nat.and_two_pow_sub_one_eq_mod, BitVec.ofInt_natCast, BitVec.toNat_ofNat, IntKind.wrap_u64]
  unfold absW
  omega
theorem run_bits (b : Nat) (w : World) : (callFunc 26 #[.float .f64 b]).run Try.prog w = .ok (.value (.int .u64 (b : Int))) w := by
  rw [run_callFunc_extern Try.func26 (by kernel_rfl) (by kernel_rfl) (by kernel_rfl) (e := Extern.MathFloatBits.float64bits) (by kernel_rfl)]; rfl
theorem run_frombits (b : Nat) (w : World) : (callFunc 25 #[.int .u64 (b : Int)]).run Try.prog w = .ok (.value (.float .f64 b)) w := by
  rw [run_callFunc_extern Try.func25 (by kernel_rfl) (by kernel_rfl) (by kernel_rfl) (e := Extern.MathFloatBits.float64frombits) (by kernel_rfl)]; rfl
theorem run_trunc {b : Nat} {z : Int} (h : Fl b z) (w : World) : (callFunc 23 #[.float .f64 b]).run Try.prog w = .ok (.value (.float .f64 (truncW b))) w := by
  rw [run_callFunc_extern Try.func23 (by kernel_rfl) (by kernel_rfl) (by kernel_rfl) (e := Extern.MathFloor.toIntegral "math.archTrunc" .zero) (by kernel_rfl)]
  obtain ⟨s, m, p, e, hv⟩ := h
  have e2 : FloatKind.f64.decode b = .number s m p := e
  unfold truncW
  rw [e]
  show (Sem.run Try.prog (match FloatKind.f64.decode b with | .nan s t => _ | d => pure (Value.float .f64 (FloatKind.f64.encode (d.integral .zero)))) w).andThen _ = _
  rw [e2]
  rfl
theorem trunc_any {b : Nat} {z : Int} (h : Fl b z) (w : World) : Calls Try.prog 21 #[.float .f64 b] w fun e w' => e = .returned (.float .f64 (truncW b)) ∧ w = w' := by
  have hr := run_trunc h
  go_enter Try.func21, Try.ntmps21
  go_wp2
  go_ret
  exact ⟨rfl, rfl⟩
theorem abs_any (b : Nat) (w : World) : Calls Try.prog 22 #[.float .f64 b] w fun e w' => e = .returned (.float .f64 (absW b)) ∧ w = w' := by
  have hr := run_bits b
  have hr2 := run_frombits (absW b)
  have ha := andnot_abs b
  go_enter Try.func22, Try.ntmps22
  go_wp2
  go_ret
  exact ⟨rfl, rfl⟩
theorem fl_tall : Fl 4854880398305394688 36028797018963968 := by
  refine ⟨false, 4503599627370496, 3, by decide, 0, 3, rfl, ?_⟩
  simp [sg]
theorem fits_any {b : Nat} {z : Int} (h : Fl b z) (hz : z.natAbs ≤ 9007199254740992) (w : World) : Calls Try.prog 18 #[.float .f64 b] w fun e w' => e = .returned (.bool true) ∧ w = w' := by
  have c1 := Lib.hid (fun W => trunc_any h W)
  have c2 := Lib.hid (fun W => abs_any b W)
  have e1 : (FloatKind.f64.format.order b (truncW b) == some .eq) = true := by
    rw [show FloatKind.f64.format = Ieee.double from rfl, fl_eq h (truncW_fl h hz)]; simp
  have e2 : (FloatKind.f64.format.order (absW b) 4854880398305394688 == some .lt) = true := by
    rw [show FloatKind.f64.format = Ieee.double from rfl, fl_lt (absW_fl h) fl_tall]; simp; omega
  go_enter Try.func18, Try.ntmps18
  go_wp2_with (first
    | (go_at_call 21; (with_reducible refine (c1.out _).mono ?_); rintro e w1 ⟨rfl, rfl⟩)
    | (go_at_call 22; (with_reducible refine (c2.out _).mono ?_); rintro e w1 ⟨rfl, rfl⟩))
  go_ret
  exact ⟨ret_bool (by simp), rfl⟩
end Go.Proofs.Ytmecpbgjienidaa
