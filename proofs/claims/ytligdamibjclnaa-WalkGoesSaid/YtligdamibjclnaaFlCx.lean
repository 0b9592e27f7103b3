/-
  Complex numbers whose parts are whole: sums, differences, products, exact as long as no part on the way is beyond 2^53; and floats that are none below 0: their sums, their whole parts. Mathematics only. No condition but those stated.
-/
import Derived.Test.YtligdamibjclnaaFlMath
namespace Go.Proofs.Ytligdamibjclnaa.Fl
open Ieee

/-! ## complex numbers -/
theorem cx_add {a b c d : Nat} {x y v w : Int} (ha : Fl a x) (hb : Fl b y) (hc : Fl c v) (hd : Fl d w) (h1 : (x + v).natAbs ≤ 9007199254740992) (h2 : (y + w).natAbs ≤ 9007199254740992) :
    ∃ re im, cSumBits .add .f64 a b c d = some (re, im) ∧ Fl re (x + v) ∧ Fl im (y + w) := by
  obtain ⟨r, e1, f1⟩ := fl_add ha hc h1
  obtain ⟨i, e2, f2⟩ := fl_add hb hd h2
  exact ⟨r, i, by unfold cSumBits; rw [e1, e2]; rfl, f1, f2⟩

theorem cx_sub {a b c d : Nat} {x y v w : Int} (ha : Fl a x) (hb : Fl b y) (hc : Fl c v) (hd : Fl d w) (h1 : (x - v).natAbs ≤ 9007199254740992) (h2 : (y - w).natAbs ≤ 9007199254740992) :
    ∃ re im, cSumBits .sub .f64 a b c d = some (re, im) ∧ Fl re (x - v) ∧ Fl im (y - w) := by
  obtain ⟨r, e1, f1⟩ := fl_sub ha hc h1
  obtain ⟨i, e2, f2⟩ := fl_sub hb hd h2
  exact ⟨r, i, by unfold cSumBits; rw [e1, e2]; rfl, f1, f2⟩

theorem cx_mul {a b c d : Nat} {x y v w : Int} (ha : Fl a x) (hb : Fl b y) (hc : Fl c v) (hd : Fl d w)
    (h1 : (x * v).natAbs ≤ 9007199254740992) (h2 : (y * w).natAbs ≤ 9007199254740992) (h3 : (x * w).natAbs ≤ 9007199254740992) (h4 : (y * v).natAbs ≤ 9007199254740992)
    (h5 : (x * v - y * w).natAbs ≤ 9007199254740992) (h6 : (x * w + y * v).natAbs ≤ 9007199254740992) :
    ∃ re im, cMulBits a b c d = some (re, im) ∧ Fl re (x * v - y * w) ∧ Fl im (x * w + y * v) := by
  obtain ⟨p, e1, f1⟩ := fl_mul ha hc h1
  obtain ⟨q, e2, f2⟩ := fl_mul hb hd h2
  obtain ⟨r, e3, f3⟩ := fl_sub f1 f2 h5
  obtain ⟨s, e4, f4⟩ := fl_mul ha hd h3
  obtain ⟨t, e5, f5⟩ := fl_mul hb hc h4
  obtain ⟨u, e6, f6⟩ := fl_add f4 f5 h6
  refine ⟨r, u, ?_, f3, f6⟩
  unfold cMulBits
  rw [e1]; show (floatBits .mul .f64 b d).bind _ = _
  rw [e2]; show (floatBits .sub .f64 p q).bind _ = _
  rw [e3]; show (floatBits .mul .f64 a d).bind _ = _
  rw [e4]; show (floatBits .mul .f64 b c).bind _ = _
  rw [e5]; show (floatBits .add .f64 s t).bind _ = _
  rw [e6]; rfl

/-! ## floats that aren't below 0 -/
/-- A number that isn't below 0, or the infinity above. -/
def Up (b : Nat) : Prop := (∃ m p, double.read b = .number false m p) ∨ double.read b = .infinity false

theorem up_rung {r : Nat} (h : r ≤ 9218868437227405312) : Up r := by
  have hlp : double.leastPlace = -1074 := by decide
  have hbn : double.binade = 4503599627370496 := by decide
  have hir : double.infRung = 9218868437227405312 := by decide
  have hsw : double.signWeight = 9223372036854775808 := by decide
  unfold Up Format.read
  have e1 : r / 9223372036854775808 % 2 = 0 := by omega
  have e2 : r % 9223372036854775808 = r := by omega
  simp only [hlp, hbn, hir, hsw, e1, e2]
  by_cases c1 : r < 4503599627370496
  · rw [if_pos c1]; exact .inl ⟨_, _, rfl⟩
  · rw [if_neg c1]
    by_cases c2 : r < 9218868437227405312
    · rw [if_pos c2]; exact .inl ⟨_, _, rfl⟩
    · rw [if_neg c2, if_pos (by omega)]; exact .inr rfl

theorem up_nearest (m : Nat) (p : Int) : Up (double.nearest false m p) := by
  have hir : double.infRung = 9218868437227405312 := by decide
  unfold Format.nearest
  by_cases h : m = 0
  · rw [if_pos h]; exact up_rung (by simp [Format.word])
  · rw [if_neg h]
    exact up_rung (by simp only [Format.word, Bool.false_eq_true, if_false, hir]; exact Nat.min_le_right ..)

theorem up_write {d : Datum} (h : (∃ m p, d = .number false m p) ∨ d = .infinity false) : Up (double.write d) := by
  rcases h with ⟨m, p, rfl⟩ | rfl
  · exact up_nearest m p
  · refine up_rung ?_; show double.word false double.infRung ≤ _; decide

/-- A float squared, if it is a number. -/
theorem up_square {a : Nat} {s : Bool} {m : Nat} {p : Int} (h : double.read a = .number s m p) : ∃ r, floatBits .mul .f64 a a = some r ∧ Up r := by
  refine ⟨double.write (.number (s ^^ s) (m * m) (p + p)), ?_, up_write (.inl ⟨_, _, by rw [Bool.xor_self]⟩)⟩
  show ((double.read a).product (double.read a)).map double.write = _
  rw [h]; rfl

theorem up_add {a b : Nat} (ha : Up a) (hb : Up b) : ∃ r, floatBits .add .f64 a b = some r ∧ Up r := by
  suffices h : ∃ d, (double.read a).sum (double.read b) = some d ∧ ((∃ m p, d = .number false m p) ∨ d = .infinity false) by
    obtain ⟨d, e, hd⟩ := h
    refine ⟨double.write d, ?_, up_write hd⟩
    show ((double.read a).sum (double.read b)).map double.write = _
    rw [e]; rfl
  rcases ha with ⟨m, p, e1⟩ | e1 <;> rcases hb with ⟨n, q, e2⟩ | e2 <;> rw [e1, e2]
  · have h1 : signed false m (p - min p q).toNat = ((m * 2 ^ (p - min p q).toNat : Nat) : Int) := by simp [signed, Nat.shiftLeft_eq]
    have h2 : signed false n (q - min p q).toNat = ((n * 2 ^ (q - min p q).toNat : Nat) : Int) := by simp [signed, Nat.shiftLeft_eq]
    obtain ⟨A, hA⟩ : ∃ A, signed false m (p - min p q).toNat + signed false n (q - min p q).toNat = A := ⟨_, rfl⟩
    have h0 : 0 ≤ A := by rw [← hA, h1, h2]; omega
    have h3 : (if A = 0 then false && false else decide (A < 0)) = false := by
      split
      · rfl
      · exact decide_eq_false (by omega)
    refine ⟨.number false A.natAbs (min p q), ?_, .inl ⟨_, _, rfl⟩⟩
    show some (Datum.number (if signed false m (p - min p q).toNat + signed false n (q - min p q).toNat = 0 then false && false else decide (signed false m (p - min p q).toNat + signed false n (q - min p q).toNat < 0)) (signed false m (p - min p q).toNat + signed false n (q - min p q).toNat).natAbs (min p q)) = _
    rw [hA, h3]
  · exact ⟨_, rfl, .inr rfl⟩
  · exact ⟨_, rfl, .inr rfl⟩
  · exact ⟨.infinity false, rfl, .inr rfl⟩

theorem cut_low (m d : Nat) : Toward.zero.cut false m d * 2 ^ d ≤ m := by
  unfold Toward.cut
  simp only [Bool.toNat_false, Nat.add_zero]
  rcases Nat.le_total d (m.log2 + 2) with h | h
  · rw [Nat.min_eq_left h, Nat.shiftLeft_eq, Nat.one_mul]; exact Nat.div_mul_le_self ..
  · rw [Nat.min_eq_right h, Nat.shiftLeft_eq, Nat.one_mul]
    have : m < 2 ^ (m.log2 + 2) := Nat.lt_trans Nat.lt_log2_self (Nat.pow_lt_pow_right (by omega) (by omega))
    rw [Nat.div_eq_of_lt this]; omega

/-- One that is below a whole number has a whole part that is, too. -/
theorem up_toInt {a b : Nat} {y : Int} (ha : Up a) (hb : Fl b y) (h : double.order a b = some .lt) : ∃ n : Int, (double.read a).toInt .zero = some n ∧ 0 ≤ n ∧ n < y := by
  obtain ⟨t, n, j, e2, h2⟩ := hb
  have h' : (double.read a).order (double.read b) = some .lt := h
  rcases ha with ⟨m, p, e1⟩ | e1
  case inr => rw [e1, e2] at h'; cases h'
  rw [e1, e2] at h'
  rw [e1]
  refine ⟨_, rfl, ?_, ?_⟩
  · simp [signed]
  show signed false (Toward.zero.cut false (m <<< p.toNat) (-p).toNat) 0 < y
  have hs : ∀ q, signed false q 0 = (q : Int) := by intro q; simp [signed]
  rw [hs]
  obtain ⟨t2, h3, e3⟩ := va_more h2
  obtain ⟨T, hT⟩ : ∃ T : Nat, t2 + p.natAbs = T := ⟨_, rfl⟩
  obtain ⟨u, hu⟩ : ∃ u : Nat, (u : Int) = min p j + T := ⟨(min p j + T).toNat, by omega⟩
  have f2 := e3 T ((j - min p j).toNat + u) (by omega) (by omega)
  rw [Nat.pow_add, Int.natCast_mul, ← Int.mul_assoc] at f2
  have hlt : signed false m (p - min p j).toNat < signed t n (j - min p j).toNat := by
    have h4 : some (compare (signed false m (p - min p j).toNat) (signed t n (j - min p j).toNat)) = some .lt := h'
    injection h4 with h4
    rcases Int.lt_trichotomy (signed false m (p - min p j).toNat) (signed t n (j - min p j).toNat) with g | g | g
    · exact g
    · rw [g, cmp_eq] at h4; cases h4
    · rw [cmp_gt g] at h4; cases h4
  rw [signed_eq, signed_eq] at hlt
  have p1 : (0 : Int) < ((2 ^ u : Nat) : Int) := by have := Nat.two_pow_pos u; omega
  have hm := Int.mul_lt_mul_of_pos_right hlt p1
  rw [f2, Int.mul_assoc, ← Int.natCast_mul, ← Nat.pow_add] at hm
  -- m * 2^(p+T) < y * 2^T
  have hsg : sg false m = (m : Int) := rfl
  rw [hsg] at hm
  rcases Int.le_total 0 p with hp | hp
  · obtain ⟨d, hd⟩ : ∃ d : Nat, p = d := ⟨_, (Int.toNat_of_nonneg hp).symm⟩
    have h0 : (-p).toNat = 0 := by omega
    rw [h0, cut_none, Nat.shiftLeft_eq, hd, Int.toNat_natCast]
    have he : (p - min p j).toNat + u = d + T := by omega
    rw [he, Nat.pow_add, Int.natCast_mul, ← Int.mul_assoc] at hm
    have := Int.lt_of_mul_lt_mul_right hm (by have := Nat.two_pow_pos T; omega)
    rw [Int.natCast_mul]; exact this
  · obtain ⟨d, hd⟩ : ∃ d : Nat, (-p) = d := ⟨_, (Int.toNat_of_nonneg (by omega)).symm⟩
    have h0 : p.toNat = 0 := by omega
    rw [h0, Nat.shiftLeft_zero, hd, Int.toNat_natCast]
    obtain ⟨v, hv⟩ : ∃ v : Nat, (p - min p j).toNat + u = v := ⟨_, rfl⟩
    have he : T = d + v := by omega
    rw [hv, he, Nat.pow_add, Int.natCast_mul, ← Int.mul_assoc] at hm
    have hm2 := Int.lt_of_mul_lt_mul_right hm (by have := Nat.two_pow_pos v; omega)
    have hc : ((Toward.zero.cut false m d * 2 ^ d : Nat) : Int) ≤ (m : Int) := by exact_mod_cast cut_low m d
    rw [Int.natCast_mul] at hc
    exact Int.lt_of_mul_lt_mul_right (Int.lt_of_le_of_lt hc hm2) (by have := Nat.two_pow_pos d; omega)

theorem fl_up {a : Nat} {x : Int} (h : Fl a x) (hx : 0 < x) : Up a := by
  obtain ⟨s, m, p, e, hv⟩ := h
  have := va_sign hv (by omega)
  exact .inl ⟨m, p, by rw [e, this, decide_eq_false (by omega)]⟩
end Go.Proofs.Ytligdamibjclnaa.Fl
