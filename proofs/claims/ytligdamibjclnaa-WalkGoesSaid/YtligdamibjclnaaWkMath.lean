/-
  A walk over a grid, by words and by whole numbers: mathematics. No condition but those stated.
-/
import Derived.Test.YtligdamibjclnaaSeMath
namespace Go.Proofs.Ytligdamibjclnaa.Wk
open Se Fl

/-! ## the less and the greater of two floats; products -/
def minW (a b : Nat) : Nat := if FloatKind.f64.format.order a b = some .lt then a else if FloatKind.f64.format.order a b = some .gt then b else if (FloatKind.f64.decode a).neg then a else b
def maxW (a b : Nat) : Nat := if FloatKind.f64.format.order a b = some .lt then b else if FloatKind.f64.format.order a b = some .gt then a else if (FloatKind.f64.decode a).neg then b else a
theorem fl_order' {a b : Nat} {x y : Int} (ha : Fl a x) (hb : Fl b y) : FloatKind.f64.format.order a b = some (compare x y) := fl_order ha hb
theorem minW_fl {a b : Nat} {x y : Int} (ha : Fl a x) (hb : Fl b y) : Fl (minW a b) (min x y) := by
  unfold minW
  rw [fl_order' ha hb]
  rcases Int.lt_trichotomy x y with h | h | h
  · rw [cmp_lt h, if_pos rfl, show min x y = x by omega]; exact ha
  · subst h
    rw [cmp_eq, show min x x = x by omega]
    rw [if_neg (by decide), if_neg (by decide)]
    split
    · exact ha
    · exact hb
  · rw [cmp_gt h, if_neg (by decide), if_pos rfl, show min x y = y by omega]; exact hb
theorem maxW_fl {a b : Nat} {x y : Int} (ha : Fl a x) (hb : Fl b y) : Fl (maxW a b) (max x y) := by
  unfold maxW
  rw [fl_order' ha hb]
  rcases Int.lt_trichotomy x y with h | h | h
  · rw [cmp_lt h, if_pos rfl, show max x y = y by omega]; exact hb
  · subst h
    rw [cmp_eq, show max x x = x by omega]
    rw [if_neg (by decide), if_neg (by decide)]
    split
    · exact hb
    · exact ha
  · rw [cmp_gt h, if_neg (by decide), if_pos rfl, show max x y = x by omega]; exact ha
theorem run_minW {P : Program} {a b : Nat} {x y : Int} (ha : Fl a x) (hb : Fl b y) (ts : Array TypeId) (t : TypeId) (w : World) : (Builtin.min_ ts t #[.float .f64 a, .float .f64 b]).run P w = .ok (.float .f64 (minW a b)) w := by
  unfold minW
  rcases Int.lt_trichotomy x y with h | h | h
  · have e := fl_order' ha hb
    rw [cmp_lt h] at e
    simp [Builtin.min_, Builtin.min2, e]
  · have e := fl_order' ha hb
    subst h
    rw [cmp_eq] at e
    simp [Builtin.min_, Builtin.min2, e]
  · have e := fl_order' ha hb
    rw [cmp_gt h] at e
    simp [Builtin.min_, Builtin.min2, e]
theorem run_maxW {P : Program} {a b : Nat} {x y : Int} (ha : Fl a x) (hb : Fl b y) (ts : Array TypeId) (t : TypeId) (w : World) : (Builtin.max_ ts t #[.float .f64 a, .float .f64 b]).run P w = .ok (.float .f64 (maxW a b)) w := by
  unfold maxW
  rcases Int.lt_trichotomy x y with h | h | h
  · have e := fl_order' ha hb
    rw [cmp_lt h] at e
    simp [Builtin.max_, Builtin.max2, e]
  · have e := fl_order' ha hb
    subst h
    rw [cmp_eq] at e
    simp [Builtin.max_, Builtin.max2, e]
  · have e := fl_order' ha hb
    rw [cmp_gt h] at e
    simp [Builtin.max_, Builtin.max2, e]
def mulF (a b : Nat) : Nat := (floatBits .mul .f64 a b).getD 0
theorem mulF_run {a b : Nat} {x y : Int} (ha : Fl a x) (hb : Fl b y) (h : (x * y).natAbs ≤ 9007199254740992) : floatBits .mul .f64 a b = some (mulF a b) := by
  obtain ⟨r, e, f⟩ := fl_mul ha hb h
  unfold mulF; rw [e]; rfl
theorem mulF_fl {a b : Nat} {x y : Int} (ha : Fl a x) (hb : Fl b y) (h : (x * y).natAbs ≤ 9007199254740992) : Fl (mulF a b) (x * y) := by
  obtain ⟨r, e, f⟩ := fl_mul ha hb h
  unfold mulF; rw [e]; exact f
attribute [irreducible] mulF minW maxW

/-! ## a walk's words -/
structure Pw where
  pos : Cw
  hd : Cw
  st : Int
  lo : Cw
  hi : Cw
def turnTo (c : Cw) (last price : Int) : Cw := if last < price then ⟨subZ c.im, c.re⟩ else if price < last then ⟨c.im, subZ c.re⟩ else c
def clamp (s : Int) : Int := min (max s 0) 1000
def thenW (p : Pw) (last price size : Int) : Pw :=
  let h := if 0 < p.st then turnTo p.hd last price else p.hd
  let q := addW p.pos ⟨mulF h.re (floatOfInt .f64 (clamp size)), mulF h.im (floatOfInt .f64 (clamp size))⟩
  ⟨q, h, p.st + 1, ⟨minW p.lo.re q.re, minW p.lo.im q.im⟩, ⟨maxW p.hi.re q.re, maxW p.hi.im q.im⟩⟩
def begW : Pw := ⟨c0, ⟨4607182418800017408, 0⟩, 0, c0, c0⟩
/-! ## a walk's numbers -/
structure Pz where
  x : Int
  y : Int
  h : Nat
  lx : Int
  ly : Int
  hx : Int
  hy : Int
def headTo (first : Bool) (h : Nat) (last price : Int) : Nat := if first then h else if last < price then (h + 1) % 4 else if price < last then (h + 3) % 4 else h
def stepZ (z : Pz) (first : Bool) (last price size : Int) : Pz :=
  let h := headTo first z.h last price
  let x := z.x + tr h 1 0 * clamp size
  let y := z.y + ti h 1 0 * clamp size
  ⟨x, y, h, min z.lx x, min z.ly y, max z.hx x, max z.hy y⟩
def begZ : Pz := ⟨0, 0, 0, 0, 0, 0, 0⟩
/-- The words stand for the numbers, k trades having come. -/
structure PF (p : Pw) (z : Pz) (k : Nat) : Prop where
  pos : CF p.pos z.x z.y
  hd : CF p.hd (tr z.h 1 0) (ti z.h 1 0)
  h4 : z.h < 4
  st : p.st = k
  lo : CF p.lo z.lx z.ly
  hi : CF p.hi z.hx z.hy
  bx : z.x.natAbs ≤ 1000 * k
  by_ : z.y.natAbs ≤ 1000 * k
theorem pf_beg : PF begW begZ 0 := ⟨cf_zero, ⟨fl_one, fl_zero⟩, by decide, rfl, cf_zero, cf_zero, by decide, by decide⟩
theorem clamp_bd (s : Int) : 0 ≤ clamp s ∧ clamp s ≤ 1000 := by unfold clamp; omega
theorem t_left (h : Nat) (h4 : h < 4) : 0 - ti h 1 0 = tr ((h + 1) % 4) 1 0 ∧ tr h 1 0 = ti ((h + 1) % 4) 1 0 := by
  match h, h4 with
  | 0, _ => decide
  | 1, _ => decide
  | 2, _ => decide
  | 3, _ => decide
theorem t_right (h : Nat) (h4 : h < 4) : ti h 1 0 = tr ((h + 3) % 4) 1 0 ∧ 0 - tr h 1 0 = ti ((h + 3) % 4) 1 0 := by
  match h, h4 with
  | 0, _ => decide
  | 1, _ => decide
  | 2, _ => decide
  | 3, _ => decide
theorem t_small (h : Nat) (h4 : h < 4) : (tr h 1 0).natAbs ≤ 1 ∧ (ti h 1 0).natAbs ≤ 1 := by
  match h, h4 with
  | 0, _ => decide
  | 1, _ => decide
  | 2, _ => decide
  | 3, _ => decide
theorem turnTo_cf {c : Cw} {h : Nat} (h4 : h < 4) (hc : CF c (tr h 1 0) (ti h 1 0)) (last price : Int) : CF (turnTo c last price) (tr (headTo false h last price) 1 0) (ti (headTo false h last price) 1 0) := by
  obtain ⟨s1, s2⟩ := t_small h h4
  unfold turnTo headTo
  by_cases h1 : last < price
  · simp only [h1, if_true, Bool.false_eq_true, if_false]
    obtain ⟨e1, e2⟩ := t_left h h4
    exact ⟨by rw [← e1]; exact subZ_fl hc.2 (by omega), by rw [← e2]; exact hc.1⟩
  · by_cases h2 : price < last
    · simp only [h1, h2, if_true, Bool.false_eq_true, if_false]
      obtain ⟨e1, e2⟩ := t_right h h4
      exact ⟨by rw [← e1]; exact hc.2, by rw [← e2]; exact subZ_fl hc.1 (by omega)⟩
    · simp only [h1, h2, Bool.false_eq_true, if_false]; exact hc
theorem headTo_lt (first : Bool) {h : Nat} (h4 : h < 4) (last price : Int) : headTo first h last price < 4 := by
  unfold headTo
  split
  · exact h4
  · split
    · omega
    · split <;> omega
/-- What the walk's floats are, one trade further. -/
structure Step (p : Pw) (last price size : Int) (h : Cw) : Prop where
  head : h = if 0 < p.st then turnTo p.hd last price else p.hd
  m1 : floatBits .mul .f64 h.re (floatOfInt .f64 (clamp size)) = some (mulF h.re (floatOfInt .f64 (clamp size)))
  m2 : floatBits .mul .f64 h.im (floatOfInt .f64 (clamp size)) = some (mulF h.im (floatOfInt .f64 (clamp size)))
  add : cSumBits .add .f64 p.pos.re p.pos.im (mulF h.re (floatOfInt .f64 (clamp size))) (mulF h.im (floatOfInt .f64 (clamp size))) = some ((thenW p last price size).pos.re, (thenW p last price size).pos.im)
theorem mul_bd {t : Int} {s : Int} (ht : t.natAbs ≤ 1) : (t * clamp s).natAbs ≤ 1000 := by
  obtain ⟨c1, c2⟩ := clamp_bd s
  rw [Int.natAbs_mul]
  exact Nat.le_trans (Nat.mul_le_mul ht (by omega : (clamp s).natAbs ≤ 1000)) (by decide)
theorem then_pf {p : Pw} {z : Pz} {k : Nat} (h : PF p z k) (hk : k ≤ 1000) (last price size : Int) :
    PF (thenW p last price size) (stepZ z (k == 0) last price size) (k + 1) ∧ Step p last price size (thenW p last price size).hd := by
  obtain ⟨hd, hhd⟩ : ∃ hd : Cw, (if 0 < p.st then turnTo p.hd last price else p.hd) = hd := ⟨_, rfl⟩
  obtain ⟨g, hg⟩ : ∃ g, headTo (k == 0) z.h last price = g := ⟨_, rfl⟩
  have hg4 : g < 4 := by rw [← hg]; exact headTo_lt _ h.h4 _ _
  have hcf : CF hd (tr g 1 0) (ti g 1 0) := by
    rw [← hhd, ← hg, h.st]
    by_cases h0 : k = 0
    · subst h0
      simp [headTo]; exact h.hd
    · have e : (k == 0) = false := by simpa using h0
      rw [e, if_pos (by omega)]
      exact turnTo_cf h.h4 h.hd last price
  obtain ⟨s1, s2⟩ := t_small g hg4
  obtain ⟨c1, c2⟩ := clamp_bd size
  have hn : Fl (floatOfInt .f64 (clamp size)) (clamp size) := fl_int (by omega)
  have b1 := mul_bd (s := size) s1
  have b2 := mul_bd (s := size) s2
  have bx := h.bx
  have by_ := h.by_
  have m1 := mulF_fl hcf.1 hn (by omega)
  have m2 := mulF_fl hcf.2 hn (by omega)
  have hm : CF ⟨mulF hd.re (floatOfInt .f64 (clamp size)), mulF hd.im (floatOfInt .f64 (clamp size))⟩ (tr g 1 0 * clamp size) (ti g 1 0 * clamp size) := ⟨m1, m2⟩
  have ha := addW_cf h.pos hm (by omega) (by omega)
  have hr := addW_run h.pos hm (by omega) (by omega)
  refine ⟨⟨?_, ?_, ?_, ?_, ?_, ?_, ?_, ?_⟩, ?_⟩
  · simp only [thenW, stepZ, hhd, hg]; exact ha
  · simp only [thenW, stepZ, hhd, hg]; exact hcf
  · simp only [stepZ, hg]; exact hg4
  · simp only [thenW, h.st]; omega
  · simp only [thenW, stepZ, hhd, hg]; exact ⟨minW_fl h.lo.1 ha.1, minW_fl h.lo.2 ha.2⟩
  · simp only [thenW, stepZ, hhd, hg]; exact ⟨maxW_fl h.hi.1 ha.1, maxW_fl h.hi.2 ha.2⟩
  · simp only [stepZ, hg]; omega
  · simp only [stepZ, hg]; omega
  · have e : (thenW p last price size).hd = hd := by simp only [thenW, hhd]
    rw [e]
    exact ⟨hhd.symm, mulF_run hcf.1 hn (by omega), mulF_run hcf.2 hn (by omega), by simp only [thenW, hhd]; exact hr⟩
end Go.Proofs.Ytligdamibjclnaa.Wk
