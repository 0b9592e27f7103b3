/-
  Complex numbers of whole parts, their turns, a row's waves: mathematics only. No condition but those stated.
-/
import Derived.Test.YtligdamibjclnaaFlCx
import Derived.Laws.BitsAllLaws
import Derived.Laws.BitsLemmas
import Derived.WalkKit
namespace Go.Proofs.Ytligdamibjclnaa.Se
open Fl

/-- The words of a complex number's parts. -/
structure Cw where
  re : Nat
  im : Nat
def cv (c : Cw) : Value := .complex .f64 c.re c.im
/-- They stand for x + yi. -/
def CF (c : Cw) (x y : Int) : Prop := Fl c.re x ∧ Fl c.im y
def c0 : Cw := ⟨0, 0⟩
theorem fl_zero : Fl 0 0 := fl_int (z := 0) (by decide)
theorem fl_one : Fl 4607182418800017408 1 := fl_int (z := 1) (by decide)
theorem cf_zero : CF c0 0 0 := ⟨fl_zero, fl_zero⟩
theorem cf_cast {c : Cw} {x y x' y' : Int} (h : CF c x y) (e1 : x = x') (e2 : y = y') : CF c x' y' := by subst e1; subst e2; exact h

/-- Turned n times: the real part, the imaginary part. -/
def tr : Nat → Int → Int → Int
  | 0, x, _ => x
  | n + 1, x, y => tr n (0 - y) x
def ti : Nat → Int → Int → Int
  | 0, _, y => y
  | n + 1, x, y => ti n (0 - y) x

theorem and3 {k : Int} (h1 : -9223372036854775808 ≤ k) (h2 : k ≤ 9223372036854775807) : bits .and .i64 k 3 = (((k % 4).toNat : Nat) : Int) := by
  show IntKind.i64.wrap ((BitVec.ofInt 64 k &&& BitVec.ofInt 64 3).toNat : Int) = _
  rw [BitVec.toNat_and, BitVec.toNat_ofInt]
  have e3 : (BitVec.ofInt 64 3).toNat = 2 ^ 2 - 1 := by decide
  rw [e3, Nat.and_two_pow_sub_one_eq_mod, IntKind.wrap_i64]
  have e : (k % ((2 ^ 64 : Nat) : Int)).toNat % 2 ^ 2 = (k % 4).toNat := by omega
  rw [e]
  omega
theorem turn_lt (k : Int) : (k % 4).toNat ≤ 3 := by omega
/-! ## a row's waves -/
/-- The wave m of a row of four so far: of the places below p. -/
def pre (s : Nat → Int) (m : Nat) : Nat → Int
  | 0 => 0
  | p + 1 => pre s m p + tr ((-((m : Int) * (p : Int))) % 4).toNat (s p) 0
def pim (s : Nat → Int) (m : Nat) : Nat → Int
  | 0 => 0
  | p + 1 => pim s m p + ti ((-((m : Int) * (p : Int))) % 4).toNat (s p) 0
def szs (s : Nat → Int) : Nat → Nat
  | 0 => 0
  | p + 1 => szs s p + (s p).natAbs
theorem tr_le (n : Nat) (h : n ≤ 3) (x : Int) : (tr n x 0).natAbs ≤ x.natAbs ∧ (ti n x 0).natAbs ≤ x.natAbs := by
  match n, h with
  | 0, _ => simp [tr, ti]
  | 1, _ => simp [tr, ti]
  | 2, _ => simp [tr, ti]
  | 3, _ => simp [tr, ti]
theorem pre_le (s : Nat → Int) (m p : Nat) : (pre s m p).natAbs ≤ szs s p ∧ (pim s m p).natAbs ≤ szs s p := by
  induction p with
  | zero => simp [pre, pim, szs]
  | succ p ih =>
    have h := tr_le ((-((m : Int) * (p : Int))) % 4).toNat (turn_lt _) (s p)
    unfold pre pim szs
    omega
theorem szs_mono (s : Nat → Int) {p q : Nat} (h : p ≤ q) : szs s p ≤ szs s q := by
  induction q with
  | zero => rw [Nat.le_zero.1 h]; omega
  | succ q ih =>
    rcases Nat.eq_or_lt_of_le h with rfl | h
    · omega
    · have := ih (by omega)
      show szs s p ≤ szs s q + (s q).natAbs
      omega
/-- What the document says of them. -/
def wre (s : Nat → Int) : Nat → Int
  | 0 => s 0 + s 1 + s 2 + s 3
  | 1 => s 0 - s 2
  | 2 => s 0 - s 1 + s 2 - s 3
  | _ => s 0 - s 2
def wim (s : Nat → Int) : Nat → Int
  | 0 => 0
  | 1 => s 3 - s 1
  | 2 => 0
  | _ => s 1 - s 3
theorem pre_all (s : Nat → Int) (m : Nat) (h : m < 4) : pre s m 4 = wre s m ∧ pim s m 4 = wim s m := by
  match m, h with
  | 0, _ => constructor <;> simp [pre, pim, wre, wim, tr, ti]
  | 1, _ => constructor <;> simp [pre, pim, wre, wim, tr, ti] <;> omega
  | 2, _ => constructor <;> simp [pre, pim, wre, wim, tr, ti] <;> omega
  | 3, _ => constructor <;> simp [pre, pim, wre, wim, tr, ti] <;> omega

/-! ## the words of turned numbers and of sums -/
def subZ (b : Nat) : Nat := (floatBits .sub .f64 0 b).getD 0
theorem subZ_run {b : Nat} {y : Int} (hb : Fl b y) (hy : y.natAbs ≤ 9007199254740992) : floatBits .sub .f64 0 b = some (subZ b) := by
  obtain ⟨r, e, f⟩ := fl_sub fl_zero hb (by omega)
  unfold subZ; rw [e]; rfl
theorem subZ_fl {b : Nat} {y : Int} (hb : Fl b y) (hy : y.natAbs ≤ 9007199254740992) : Fl (subZ b) (0 - y) := by
  obtain ⟨r, e, f⟩ := fl_sub fl_zero hb (by omega)
  unfold subZ; rw [e]; exact f
def turnW : Nat → Cw → Cw
  | 0, c => c
  | n + 1, c => turnW n ⟨subZ c.im, c.re⟩
theorem turnW_cf : ∀ (n : Nat) {c : Cw} {x y : Int}, CF c x y → x.natAbs ≤ 9007199254740992 → y.natAbs ≤ 9007199254740992 → CF (turnW n c) (tr n x y) (ti n x y)
  | 0, _, _, _, h, _, _ => h
  | n + 1, c, x, y, h, hx, hy => turnW_cf n (c := ⟨subZ c.im, c.re⟩) ⟨subZ_fl h.2 hy, h.1⟩ (by omega) hx
def addW (a b : Cw) : Cw := ⟨((cSumBits .add .f64 a.re a.im b.re b.im).getD (0, 0)).1, ((cSumBits .add .f64 a.re a.im b.re b.im).getD (0, 0)).2⟩
theorem addW_run {a b : Cw} {x y v w : Int} (ha : CF a x y) (hb : CF b v w) (h1 : (x + v).natAbs ≤ 9007199254740992) (h2 : (y + w).natAbs ≤ 9007199254740992) :
    cSumBits .add .f64 a.re a.im b.re b.im = some ((addW a b).re, (addW a b).im) := by
  obtain ⟨re, im, e, f1, f2⟩ := cx_add ha.1 ha.2 hb.1 hb.2 h1 h2
  unfold addW; rw [e]; rfl
theorem addW_cf {a b : Cw} {x y v w : Int} (ha : CF a x y) (hb : CF b v w) (h1 : (x + v).natAbs ≤ 9007199254740992) (h2 : (y + w).natAbs ≤ 9007199254740992) :
    CF (addW a b) (x + v) (y + w) := by
  obtain ⟨re, im, e, f1, f2⟩ := cx_add ha.1 ha.2 hb.1 hb.2 h1 h2
  unfold addW; rw [e]; exact ⟨f1, f2⟩
/-- The wave m of four, so far: its words. -/
def accW (f : Nat → Cw) (m : Nat) : Nat → Cw
  | 0 => c0
  | p + 1 => addW (accW f m p) (turnW ((-((m : Int) * (p : Int))) % 4).toNat (f p))
theorem accW_cf (f : Nat → Cw) (s : Nat → Int) (m : Nat) (hf : ∀ j, j < 4 → CF (f j) (s j) 0) (hs : szs s 4 ≤ 9007199254740992) :
    ∀ p, p ≤ 4 → CF (accW f m p) (pre s m p) (pim s m p)
  | 0, _ => cf_zero
  | p + 1, hp => by
    have h1 := accW_cf f s m hf hs p (by omega)
    have hx : (s p).natAbs ≤ 9007199254740992 := by
      have := szs_mono s hp
      have e : szs s (p + 1) = szs s p + (s p).natAbs := rfl
      omega
    have h2 := turnW_cf ((-((m : Int) * (p : Int))) % 4).toNat (hf p (by omega)) hx (by decide)
    have h3 := pre_le s m (p + 1)
    have h4 := szs_mono s hp
    exact addW_cf h1 h2 (by unfold pre at h3; omega) (by unfold pim at h3; omega)
theorem accW_run (f : Nat → Cw) (s : Nat → Int) (m p : Nat) (hp : p < 4) (hf : ∀ j, j < 4 → CF (f j) (s j) 0) (hs : szs s 4 ≤ 9007199254740992) :
    cSumBits .add .f64 (accW f m p).re (accW f m p).im (turnW ((-((m : Int) * (p : Int))) % 4).toNat (f p)).re (turnW ((-((m : Int) * (p : Int))) % 4).toNat (f p)).im = some ((accW f m (p + 1)).re, (accW f m (p + 1)).im) := by
  have h1 := accW_cf f s m hf hs p (by omega)
  have hx : (s p).natAbs ≤ 9007199254740992 := by
    have := szs_mono s (show p + 1 ≤ 4 by omega)
    have e : szs s (p + 1) = szs s p + (s p).natAbs := rfl
    omega
  have h2 := turnW_cf ((-((m : Int) * (p : Int))) % 4).toNat (hf p hp) hx (by decide)
  have h3 := pre_le s m (p + 1)
  have h4 := szs_mono s (show p + 1 ≤ 4 by omega)
  exact addW_run h1 h2 (by unfold pre at h3; omega) (by unfold pim at h3; omega)
attribute [irreducible] subZ addW
end Go.Proofs.Ytligdamibjclnaa.Se
