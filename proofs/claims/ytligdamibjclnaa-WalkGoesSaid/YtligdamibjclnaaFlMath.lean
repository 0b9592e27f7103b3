/-
  Whole numbers as floats (binary64): what a word stands for, and that sums, differences and products of such are exact as long as they aren't beyond 2^53. Mathematics only. No condition but those stated.
-/
import Derived.Laws.ComplexArith
namespace Go.Proofs.Ytligdamibjclnaa.Fl
open Ieee

/-! ## values -/
/-- A magnitude with its sign. -/
def sg (s : Bool) (m : Nat) : Int := if s then -(m : Int) else (m : Int)
theorem signed_eq (s : Bool) (m u : Nat) : signed s m u = sg s m * ((2 ^ u : Nat) : Int) := by
  cases s <;> simp [signed, sg, Nat.shiftLeft_eq, Int.neg_mul]
theorem sg_natAbs (s : Bool) (m : Nat) : (sg s m).natAbs = m := by cases s <;> simp [sg]
theorem sg_not (s : Bool) (m : Nat) : sg (!s) m = -sg s m := by cases s <;> simp [sg]
theorem sg_mul (s t : Bool) (m n : Nat) : sg (s ^^ t) (m * n) = sg s m * sg t n := by cases s <;> cases t <;> simp [sg, Int.neg_mul, Int.mul_neg]

/-- 'm * 2^p' with its sign is the whole number z. -/
def Va (s : Bool) (m : Nat) (p z : Int) : Prop := ∃ t u : Nat, (u : Int) = p + t ∧ sg s m * ((2 ^ u : Nat) : Int) = z * ((2 ^ t : Nat) : Int)

theorem va_more {s : Bool} {m : Nat} {p z : Int} (h : Va s m p z) : ∃ t0 : Nat, 0 ≤ p + t0 ∧ ∀ t u : Nat, t0 ≤ t → (u : Int) = p + t → sg s m * ((2 ^ u : Nat) : Int) = z * ((2 ^ t : Nat) : Int) := by
  obtain ⟨t0, u0, hu, e⟩ := h
  refine ⟨t0, by omega, fun t u ht hu' => ?_⟩
  obtain ⟨d, rfl⟩ := Nat.exists_eq_add_of_le ht
  have : u = u0 + d := by omega
  subst this
  rw [Nat.pow_add, Nat.pow_add, Int.natCast_mul, Int.natCast_mul, ← Int.mul_assoc, ← Int.mul_assoc, e]

theorem va_opposite {s : Bool} {m : Nat} {p z : Int} (h : Va s m p z) : Va (!s) m p (-z) := by
  obtain ⟨t, u, hu, e⟩ := h
  exact ⟨t, u, hu, by rw [sg_not, Int.neg_mul, e, Int.neg_mul]⟩

theorem va_zero {s : Bool} {m : Nat} {p : Int} (h : Va s m p 0) : m = 0 := by
  obtain ⟨t, u, hu, e⟩ := h
  rw [Int.zero_mul] at e
  have h2 : ((2 ^ u : Nat) : Int) ≠ 0 := by have := Nat.two_pow_pos u; omega
  have := (Int.mul_eq_zero.1 e).resolve_right h2
  cases s <;> simp [sg] at this <;> omega

theorem va_abs {s : Bool} {m : Nat} {p z : Int} (h : Va s m p z) : ∃ t u : Nat, (u : Int) = p + t ∧ m * 2 ^ u = z.natAbs * 2 ^ t := by
  obtain ⟨t, u, hu, e⟩ := h
  refine ⟨t, u, hu, ?_⟩
  have := congrArg Int.natAbs e
  rwa [Int.natAbs_mul, Int.natAbs_mul, sg_natAbs, Int.natAbs_natCast, Int.natAbs_natCast] at this

theorem va_sign {s : Bool} {m : Nat} {p z : Int} (h : Va s m p z) (hz : z ≠ 0) : s = decide (z < 0) := by
  obtain ⟨t, u, hu, e⟩ := h
  have h1 : (0 : Int) < ((2 ^ u : Nat) : Int) := by have := Nat.two_pow_pos u; omega
  have h2 : (0 : Int) < ((2 ^ t : Nat) : Int) := by have := Nat.two_pow_pos t; omega
  cases s
  · have : 0 ≤ z := by
      have h3 : 0 ≤ z * ((2 ^ t : Nat) : Int) := by rw [← e]; exact Int.mul_nonneg (by simp [sg]) (by omega)
      exact Int.le_of_mul_le_mul_right (by rw [Int.zero_mul]; exact h3) h2
    simp; omega
  · have : z ≤ 0 := by
      have h3 : z * ((2 ^ t : Nat) : Int) ≤ 0 := by rw [← e]; exact Int.mul_nonpos_of_nonpos_of_nonneg (by simp [sg]) (by omega)
      exact Int.le_of_mul_le_mul_right (by rw [Int.zero_mul]; exact h3) h2
    simp; omega

/-! ## powers of two -/
theorem log2_mul_pow {m u : Nat} (h : 0 < m) : (m * 2 ^ u).log2 = m.log2 + u := by
  induction u with
  | zero => simp
  | succ u ih =>
    have h1 : 0 < m * 2 ^ u := Nat.mul_pos h (Nat.two_pow_pos u)
    rw [Nat.pow_succ, ← Nat.mul_assoc, Nat.mul_comm _ 2, Nat.log2_two_mul (by omega), ih]; omega

theorem cut_exact (way : Toward) (neg : Bool) (q d l : Nat) (hl : (q * 2 ^ d).log2 = l) (hd : d ≤ l + 2) : way.cut neg (q * 2 ^ d) d = q := by
  have hg : 1 <<< min d (l + 2) = 2 ^ d := by rw [Nat.min_eq_left hd, Nat.shiftLeft_eq, Nat.one_mul]
  have hp : 0 < 2 ^ d := Nat.two_pow_pos d
  unfold Toward.cut
  simp only [hl, hg, Nat.mul_div_cancel _ hp, Nat.mul_mod_left]
  cases way <;> simp <;> omega

theorem cut_none (way : Toward) (neg : Bool) (n : Nat) : way.cut neg n 0 = n := by
  unfold Toward.cut
  cases way <;> simp [Nat.mod_one]

/-! ## a whole number's word -/
theorem near {neg : Bool} {m : Nat} {p : Int} {a t u : Nat} (hu : (u : Int) = p + t) (e : m * 2 ^ u = a * 2 ^ t) (ha : 0 < a) (hb : a ≤ 9007199254740992) :
    ∃ q k : Nat, double.nearest neg m p = double.word neg ((k + 1022) * 4503599627370496 + q) ∧ 4503599627370496 ≤ q ∧ q < 9007199254740992 ∧ q * 2 ^ k = a * 4503599627370496 ∧ k ≤ 53 := by
  have hm : 0 < m := by
    rcases Nat.eq_zero_or_pos m with rfl | h
    · rw [Nat.zero_mul] at e; have := Nat.mul_pos ha (Nat.two_pow_pos t); omega
    · exact h
  obtain ⟨k, hk⟩ : ∃ k, a.log2 = k := ⟨_, rfl⟩
  have hl : m.log2 + u = k + t := by rw [← log2_mul_pow hm, e, log2_mul_pow ha, hk]
  have hk1 : 2 ^ k ≤ a := by rw [← hk]; exact Nat.log2_self_le (by omega)
  have hk2 : a < 2 ^ (k + 1) := by rw [← hk]; exact Nat.lt_log2_self
  have hk53 : k ≤ 53 := by
    rcases Nat.lt_or_ge 53 k with h | h
    · have : 2 ^ 54 ≤ 2 ^ k := Nat.pow_le_pow_right (by omega) h
      omega
    · exact h
  obtain ⟨q, hq⟩ : ∃ q, q * 2 ^ k = a * 2 ^ 52 := by
    rcases Nat.lt_or_ge 52 k with h | h
    · have : k = 53 := by omega
      subst this
      have : a = 9007199254740992 := by omega
      subst this; exact ⟨2 ^ 52, by decide⟩
    · refine ⟨a * 2 ^ (52 - k), ?_⟩
      rw [Nat.mul_assoc, ← Nat.pow_add]; congr 2; omega
  have hp2 : 0 < 2 ^ k := Nat.two_pow_pos k
  have hq1 : 2 ^ 52 ≤ q := by
    refine Nat.le_of_mul_le_mul_right (?_ : 2 ^ 52 * 2 ^ k ≤ q * 2 ^ k) hp2
    rw [hq, Nat.mul_comm]; exact Nat.mul_le_mul_right _ hk1
  have hq2 : q < 2 ^ 53 := by
    refine Nat.lt_of_mul_lt_mul_right (a := 2 ^ k) ?_
    rw [hq, ← Nat.pow_add, Nat.add_comm 53 k]
    calc a * 2 ^ 52 < 2 ^ (k + 1) * 2 ^ 52 := Nat.mul_lt_mul_of_pos_right hk2 (Nat.two_pow_pos 52)
      _ = 2 ^ (k + 53) := by rw [← Nat.pow_add]
  refine ⟨q, k, ?_, hq1, hq2, hq, hk53⟩
  have hlast : max (p + (m.log2 : Int) - 52) (-1074) = (k : Int) - 52 := by omega
  have hkept : Toward.even.cut neg (m <<< (p - ((k : Int) - 52)).toNat) (((k : Int) - 52) - p).toNat = q := by
    rcases Int.le_total ((k : Int) - 52) p with h | h
    · obtain ⟨d, hd⟩ : ∃ d : Nat, (p - ((k : Int) - 52)) = d := ⟨_, (Int.toNat_of_nonneg (by omega)).symm⟩
      have h0 : (((k : Int) - 52) - p).toNat = 0 := by omega
      rw [h0, cut_none, hd, Int.toNat_natCast, Nat.shiftLeft_eq]
      -- m * 2^d * 2^(k+t) = m * 2^u * 2^52 = a * 2^t * 2^52 = q * 2^(k+t)
      refine Nat.eq_of_mul_eq_mul_right (Nat.two_pow_pos (k + t)) ?_
      have h1 : d + (k + t) = u + 52 := by omega
      calc m * 2 ^ d * 2 ^ (k + t) = m * 2 ^ u * 2 ^ 52 := by rw [Nat.mul_assoc, ← Nat.pow_add, h1, Nat.pow_add, ← Nat.mul_assoc]
        _ = q * 2 ^ k * 2 ^ t := by rw [e, hq, Nat.mul_assoc, Nat.mul_comm (2 ^ t), ← Nat.mul_assoc]
        _ = q * 2 ^ (k + t) := by rw [Nat.pow_add, Nat.mul_assoc]
    · obtain ⟨d, hd⟩ : ∃ d : Nat, (((k : Int) - 52) - p) = d := ⟨_, (Int.toNat_of_nonneg (by omega)).symm⟩
      have h0 : (p - ((k : Int) - 52)).toNat = 0 := by omega
      rw [h0, hd, Int.toNat_natCast, Nat.shiftLeft_zero]
      have hmq : m = q * 2 ^ d := by
        refine Nat.eq_of_mul_eq_mul_right (Nat.two_pow_pos (u + 52)) ?_
        have h1 : d + (u + 52) = k + t := by omega
        calc m * 2 ^ (u + 52) = m * 2 ^ u * 2 ^ 52 := by rw [Nat.pow_add, Nat.mul_assoc]
          _ = q * 2 ^ k * 2 ^ t := by rw [e, hq, Nat.mul_assoc, Nat.mul_comm (2 ^ t), ← Nat.mul_assoc]
          _ = q * 2 ^ d * 2 ^ (u + 52) := by rw [Nat.mul_assoc, Nat.mul_assoc, ← Nat.pow_add, ← Nat.pow_add, h1]
      have hl2 : (q * 2 ^ d).log2 = m.log2 := by rw [← hmq]
      rw [hmq]
      exact cut_exact _ _ q d _ hl2 (by omega)
  have hf : (double.fractionBits : Int) = 52 := rfl
  have hlp : double.leastPlace = -1074 := by decide
  have hbn : double.binade = 4503599627370496 := by decide
  have hir : double.infRung = 9218868437227405312 := by decide
  clear e hq hl
  unfold Format.nearest
  simp only [if_neg (show ¬ m = 0 by omega), hf, hlp, hbn, hir, hlast, hkept]
  have : ((k : Int) - 52 - -1074).toNat = k + 1022 := by omega
  rw [this, Nat.min_eq_left (by omega)]

theorem read_word {neg : Bool} {q k : Nat} (h1 : 4503599627370496 ≤ q) (h2 : q < 9007199254740992) (hk : k ≤ 53) : double.read (double.word neg ((k + 1022) * 4503599627370496 + q)) = .number neg q ((k : Int) - 52) := by
  have hlp : double.leastPlace = -1074 := by decide
  have hbn : double.binade = 4503599627370496 := by decide
  have hir : double.infRung = 9218868437227405312 := by decide
  have hsw : double.signWeight = 9223372036854775808 := by decide
  have hw : double.word neg ((k + 1022) * 4503599627370496 + q) / 9223372036854775808 % 2 = (if neg then 1 else 0) ∧ double.word neg ((k + 1022) * 4503599627370496 + q) % 9223372036854775808 = (k + 1022) * 4503599627370496 + q := by
    unfold Format.word; rw [hsw]
    cases neg <;> simp <;> omega
  unfold Format.read
  simp only [hlp, hbn, hir, hsw, hw.1, hw.2]
  rw [if_neg (by omega), if_pos (by omega)]
  have e1 : ((k + 1022) * 4503599627370496 + q) % 4503599627370496 = q - 4503599627370496 := by omega
  have e2 : ((k + 1022) * 4503599627370496 + q) / 4503599627370496 = k + 1023 := by omega
  have e3 : ((if neg then 1 else 0 : Nat) == 1) = neg := by cases neg <;> rfl
  have e4 : 4503599627370496 + (q - 4503599627370496) = q := by omega
  have e5 : -1074 + ((k + 1023 - 1 : Nat) : Int) = (k : Int) - 52 := by omega
  rw [e1, e2, e3, e4, e5]

theorem read_zero (neg : Bool) : double.read (double.word neg 0) = .number neg 0 (-1074) := by cases neg <;> decide

/-! ## a float that is a whole number -/
/-- The word b stands for the whole number z (0 has two). -/
def Fl (b : Nat) (z : Int) : Prop := ∃ (s : Bool) (m : Nat) (p : Int), double.read b = .number s m p ∧ Va s m p z

theorem fl_write {s : Bool} {m : Nat} {p z : Int} (h : Va s m p z) (hz : z.natAbs ≤ 9007199254740992) : Fl (double.write (.number s m p)) z := by
  obtain ⟨t, u, hu, e⟩ := va_abs h
  by_cases h0 : z = 0
  · subst h0
    have := va_zero h
    subst this
    refine ⟨s, 0, -1074, ?_, 1074, 0, by omega, by rw [show sg s 0 = 0 from by cases s <;> rfl, Int.zero_mul, Int.zero_mul]⟩
    have : double.write (.number s 0 p) = double.word s 0 := by simp [Format.write, Format.nearest]
    rw [this, read_zero]
  · obtain ⟨q, k, e1, h1, h2, e2, hk⟩ := near (neg := s) hu e (by omega) hz
    refine ⟨s, q, (k : Int) - 52, ?_, 52, k, by omega, ?_⟩
    · show double.read (double.nearest s m p) = _
      rw [e1, read_word h1 h2 hk]
    · have hs := va_sign h h0
      have : ((q * 2 ^ k : Nat) : Int) = ((z.natAbs * 4503599627370496 : Nat) : Int) := by rw [e2]
      rw [Int.natCast_mul, Int.natCast_mul] at this
      have h3 : sg s z.natAbs = z := by
        rw [hs]; unfold sg
        by_cases hn : z < 0
        · simp [hn]; omega
        · simp [hn]; omega
      have h4 : sg s q * ((2 ^ k : Nat) : Int) = sg s z.natAbs * 4503599627370496 := by
        cases s <;> simp only [sg, Bool.false_eq_true, if_false, if_true, Int.neg_mul] <;> omega
      rw [h4, h3]; rfl

theorem fl_int {z : Int} (hz : z.natAbs ≤ 9007199254740992) : Fl (floatOfInt .f64 z) z := by
  refine fl_write (s := decide (z < 0)) (m := z.natAbs) (p := 0) ⟨0, 0, rfl, ?_⟩ hz
  unfold sg
  by_cases hn : z < 0 <;> simp [hn] <;> omega

theorem sum_va {s t : Bool} {m n : Nat} {i j x y : Int} (hx : Va s m i x) (hy : Va t n j y) :
    ∃ (r : Bool) (a : Nat) (b : Int), (Datum.number s m i).sum (.number t n j) = some (.number r a b) ∧ Va r a b (x + y) := by
  obtain ⟨t1, h1, e1⟩ := va_more hx
  obtain ⟨t2, h2, e2⟩ := va_more hy
  refine ⟨_, _, _, rfl, ?_⟩
  obtain ⟨T, hT⟩ : ∃ T, t1 + t2 = T := ⟨_, rfl⟩
  obtain ⟨u, hu⟩ : ∃ u : Nat, (u : Int) = min i j + T := ⟨(min i j + T).toNat, by omega⟩
  have f1 := e1 T ((i - min i j).toNat + u) (by omega) (by omega)
  have f2 := e2 T ((j - min i j).toNat + u) (by omega) (by omega)
  refine ⟨T, u, hu, ?_⟩
  rw [signed_eq, signed_eq]
  obtain ⟨A, hA⟩ : ∃ A, sg s m * ((2 ^ (i - min i j).toNat : Nat) : Int) + sg t n * ((2 ^ (j - min i j).toNat : Nat) : Int) = A := ⟨_, rfl⟩
  rw [hA]
  have h3 : sg (if A = 0 then s && t else decide (A < 0)) A.natAbs = A := by
    unfold sg
    by_cases h0 : A = 0
    · subst h0; simp
    · by_cases hn : A < 0 <;> simp [h0, hn] <;> omega
  rw [h3, ← hA, Int.add_mul, Int.mul_assoc, Int.mul_assoc, ← Int.natCast_mul, ← Int.natCast_mul, ← Nat.pow_add, ← Nat.pow_add, f1, f2, Int.add_mul]

theorem product_va {s t : Bool} {m n : Nat} {i j x y : Int} (hx : Va s m i x) (hy : Va t n j y) : Va (s ^^ t) (m * n) (i + j) (x * y) := by
  obtain ⟨t1, u1, h1, e1⟩ := hx
  obtain ⟨t2, u2, h2, e2⟩ := hy
  refine ⟨t1 + t2, u1 + u2, by omega, ?_⟩
  rw [sg_mul, Nat.pow_add, Nat.pow_add, Int.natCast_mul, Int.natCast_mul]
  calc sg s m * sg t n * (((2 ^ u1 : Nat) : Int) * ((2 ^ u2 : Nat) : Int)) = (sg s m * ((2 ^ u1 : Nat) : Int)) * (sg t n * ((2 ^ u2 : Nat) : Int)) := by ac_rfl
    _ = (x * ((2 ^ t1 : Nat) : Int)) * (y * ((2 ^ t2 : Nat) : Int)) := by rw [e1, e2]
    _ = x * y * (((2 ^ t1 : Nat) : Int) * ((2 ^ t2 : Nat) : Int)) := by ac_rfl

theorem fl_add {a b : Nat} {x y : Int} (ha : Fl a x) (hb : Fl b y) (h : (x + y).natAbs ≤ 9007199254740992) : ∃ r, floatBits .add .f64 a b = some r ∧ Fl r (x + y) := by
  obtain ⟨s, m, i, e1, h1⟩ := ha
  obtain ⟨t, n, j, e2, h2⟩ := hb
  obtain ⟨r, c, d, e3, h3⟩ := sum_va h1 h2
  refine ⟨_, ?_, fl_write h3 h⟩
  show ((double.read a).sum (double.read b)).map double.write = _
  rw [e1, e2, e3]; rfl

theorem fl_sub {a b : Nat} {x y : Int} (ha : Fl a x) (hb : Fl b y) (h : (x - y).natAbs ≤ 9007199254740992) : ∃ r, floatBits .sub .f64 a b = some r ∧ Fl r (x - y) := by
  obtain ⟨s, m, i, e1, h1⟩ := ha
  obtain ⟨t, n, j, e2, h2⟩ := hb
  obtain ⟨r, c, d, e3, h3⟩ := sum_va h1 (va_opposite h2)
  refine ⟨_, ?_, fl_write (z := x - y) h3 h⟩
  show ((double.read a).sum (double.read b).opposite).map double.write = _
  rw [e1, e2]; show ((Datum.number s m i).sum (.number (!t) n j)).map double.write = _
  rw [e3]; rfl

theorem fl_mul {a b : Nat} {x y : Int} (ha : Fl a x) (hb : Fl b y) (h : (x * y).natAbs ≤ 9007199254740992) : ∃ r, floatBits .mul .f64 a b = some r ∧ Fl r (x * y) := by
  obtain ⟨s, m, i, e1, h1⟩ := ha
  obtain ⟨t, n, j, e2, h2⟩ := hb
  refine ⟨_, ?_, fl_write (product_va h1 h2) h⟩
  show ((double.read a).product (double.read b)).map double.write = _
  rw [e1, e2]; rfl

/-! ## how two stand; whole parts -/
theorem cmp_lt {x y : Int} (h : x < y) : compare x y = .lt := by show (if x < y then _ else _) = _; rw [if_pos h]
theorem cmp_eq (x : Int) : compare x x = .eq := by show (if x < x then _ else if x = x then _ else _) = _; rw [if_neg (by omega), if_pos rfl]
theorem cmp_gt {x y : Int} (h : y < x) : compare x y = .gt := by show (if x < y then _ else if x = y then _ else _) = _; rw [if_neg (by omega), if_neg (by omega)]
theorem order_va {s t : Bool} {m n : Nat} {i j x y : Int} (hx : Va s m i x) (hy : Va t n j y) : (Datum.number s m i).order (.number t n j) = some (compare x y) := by
  obtain ⟨t1, h1, e1⟩ := va_more hx
  obtain ⟨t2, h2, e2⟩ := va_more hy
  obtain ⟨T, hT⟩ : ∃ T, t1 + t2 = T := ⟨_, rfl⟩
  obtain ⟨u, hu⟩ : ∃ u : Nat, (u : Int) = min i j + T := ⟨(min i j + T).toNat, by omega⟩
  have f1 := e1 T ((i - min i j).toNat + u) (by omega) (by omega)
  have f2 := e2 T ((j - min i j).toNat + u) (by omega) (by omega)
  rw [Nat.pow_add, Int.natCast_mul, ← Int.mul_assoc] at f1 f2
  show some (compare (signed s m (i - min i j).toNat) (signed t n (j - min i j).toNat)) = _
  rw [signed_eq, signed_eq]
  obtain ⟨A, hA⟩ : ∃ A, sg s m * ((2 ^ (i - min i j).toNat : Nat) : Int) = A := ⟨_, rfl⟩
  obtain ⟨B, hB⟩ : ∃ B, sg t n * ((2 ^ (j - min i j).toNat : Nat) : Int) = B := ⟨_, rfl⟩
  rw [hA] at f1 ⊢; rw [hB] at f2 ⊢
  have p1 : (0 : Int) < ((2 ^ u : Nat) : Int) := by have := Nat.two_pow_pos u; omega
  have p2 : (0 : Int) < ((2 ^ T : Nat) : Int) := by have := Nat.two_pow_pos T; omega
  have hlt : A < B ↔ x < y := by
    constructor
    · intro h
      have := Int.mul_lt_mul_of_pos_right h p1
      rw [f1, f2] at this
      exact Int.lt_of_mul_lt_mul_right this (Int.le_of_lt p2)
    · intro h
      have := Int.mul_lt_mul_of_pos_right h p2
      rw [← f1, ← f2] at this
      exact Int.lt_of_mul_lt_mul_right this (Int.le_of_lt p1)
  have heq : A = B ↔ x = y := by
    constructor
    · intro h
      rw [h, f2] at f1
      exact (Int.eq_of_mul_eq_mul_right (by omega) f1).symm
    · intro h
      rw [h, ← f2] at f1
      exact Int.eq_of_mul_eq_mul_right (by omega) f1
  rcases Int.lt_trichotomy x y with h | h | h
  · rw [cmp_lt (hlt.2 h), cmp_lt h]
  · rw [heq.2 h, h, cmp_eq, cmp_eq]
  · have h1 : ¬ A < B := by rw [hlt]; omega
    have h2 : ¬ A = B := by rw [heq]; omega
    rw [cmp_gt (by omega), cmp_gt h]

theorem fl_order {a b : Nat} {x y : Int} (ha : Fl a x) (hb : Fl b y) : double.order a b = some (compare x y) := by
  obtain ⟨s, m, i, e1, h1⟩ := ha
  obtain ⟨t, n, j, e2, h2⟩ := hb
  show (double.read a).order (double.read b) = _
  rw [e1, e2, order_va h1 h2]

theorem fl_eq {a b : Nat} {x y : Int} (ha : Fl a x) (hb : Fl b y) : (double.order a b == some .eq) = decide (x = y) := by
  rw [fl_order ha hb]
  rcases Int.lt_trichotomy x y with h | h | h
  · rw [cmp_lt h]; simp; omega
  · subst h; rw [cmp_eq]; simp
  · rw [cmp_gt h]; simp; omega

theorem fl_lt {a b : Nat} {x y : Int} (ha : Fl a x) (hb : Fl b y) : (double.order a b == some .lt) = decide (x < y) := by
  rw [fl_order ha hb]
  rcases Int.lt_trichotomy x y with h | h | h
  · rw [cmp_lt h]; simp; omega
  · subst h; rw [cmp_eq]; simp
  · rw [cmp_gt h]; simp; omega

theorem fl_gt {a b : Nat} {x y : Int} (ha : Fl a x) (hb : Fl b y) : (double.order a b == some .gt) = decide (x > y) := by
  rw [fl_order ha hb]
  rcases Int.lt_trichotomy x y with h | h | h
  · rw [cmp_lt h]; simp; omega
  · subst h; rw [cmp_eq]; simp
  · rw [cmp_gt h]; simp; omega

theorem toInt_va {s : Bool} {m : Nat} {p z : Int} (h : Va s m p z) : (Datum.number s m p).toInt .zero = some z := by
  obtain ⟨t, u, hu, e⟩ := h
  show some (signed s (Toward.zero.cut s (m <<< p.toNat) (-p).toNat) 0) = _
  rw [signed_eq]
  have p2 : ((2 ^ t : Nat) : Int) ≠ 0 := by have := Nat.two_pow_pos t; omega
  rcases Int.le_total 0 p with hp | hp
  · have h0 : (-p).toNat = 0 := by omega
    rw [h0, cut_none, Nat.shiftLeft_eq]
    have hu2 : u = p.toNat + t := by omega
    have h1 : sg s (m * 2 ^ p.toNat) = sg s m * ((2 ^ p.toNat : Nat) : Int) := by cases s <;> simp [sg, Int.neg_mul]
    rw [h1, Nat.pow_zero]
    rw [hu2, Nat.pow_add, Int.natCast_mul, ← Int.mul_assoc] at e
    have := Int.eq_of_mul_eq_mul_right p2 e
    rw [this]; simp
  · have h0 : p.toNat = 0 := by omega
    rw [h0, Nat.shiftLeft_zero]
    obtain ⟨d, hd⟩ : ∃ d : Nat, (-p) = d := ⟨_, (Int.toNat_of_nonneg (by omega)).symm⟩
    rw [hd, Int.toNat_natCast]
    have ht : t = u + d := by omega
    have hm : sg s m = z * ((2 ^ d : Nat) : Int) := by
      rw [ht, Nat.pow_add, Int.natCast_mul, Int.mul_comm (((2 ^ u : Nat) : Int)), ← Int.mul_assoc] at e
      exact Int.eq_of_mul_eq_mul_right (by have := Nat.two_pow_pos u; omega) e
    have hm2 : m = z.natAbs * 2 ^ d := by
      have := congrArg Int.natAbs hm
      rwa [sg_natAbs, Int.natAbs_mul, Int.natAbs_natCast] at this
    have hc : Toward.zero.cut s m d = z.natAbs := by
      by_cases hz : z.natAbs = 0
      · rw [hm2, hz]; simp [Toward.cut]
      · rw [hm2]
        refine cut_exact _ _ _ _ _ rfl ?_
        rw [log2_mul_pow (by omega)]; omega
    rw [hc]
    have h3 : sg s z.natAbs = z := by
      by_cases hz : z = 0
      · subst hz; cases s <;> simp [sg]
      · have hs : s = decide (z < 0) := va_sign ⟨t, u, hu, e⟩ hz
        rw [hs]; unfold sg
        by_cases hn : z < 0 <;> simp [hn] <;> omega
    rw [h3]; simp

theorem fl_toInt {a : Nat} {x : Int} (ha : Fl a x) (k : IntKind) (h1 : k.min ≤ x) (h2 : x ≤ k.max) : floatToIntVal .f64 a k = some x := by
  obtain ⟨s, m, i, e1, h⟩ := ha
  unfold floatToIntVal
  show (match (double.read a).toInt .zero with | some n => if k.min ≤ n ∧ n ≤ k.max then some n else none | none => none) = _
  rw [e1, toInt_va h]
  simp [h1, h2]
end Go.Proofs.Ytligdamibjclnaa.Fl
