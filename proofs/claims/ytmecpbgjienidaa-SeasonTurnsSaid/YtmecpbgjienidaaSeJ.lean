/-
  A quarter of the waves' sum at a place (season's quarter), walked. Conditions: the parts aren't beyond 2^53.
-/
import Derived.Test.YtmecpbgjienidaaSeI
import Derived.Test.YtmecpbgjienidaaSeB
namespace Go.Proofs.Ytmecpbgjienidaa
open Go.RowKit
open Se Fl
attribute [local go_sem] run_store_float run_store_complex

def qre (X Y : Nat → Int) (pl : Nat) : Nat → Int
  | 0 => 0
  | p + 1 => qre X Y pl p + tr (p * pl % 4) (X p) (Y p)
def qim (X Y : Nat → Int) (pl : Nat) : Nat → Int
  | 0 => 0
  | p + 1 => qim X Y pl p + ti (p * pl % 4) (X p) (Y p)
def In53 (x : Int) : Prop := x.natAbs ≤ 9007199254740992
theorem tr_in {n : Nat} (h : n ≤ 3) {x y : Int} (hx : In53 x) (hy : In53 y) : In53 (tr n x y) ∧ In53 (ti n x y) := by
  unfold In53 at *
  match n, h with
  | 0, _ => simp [tr, ti]; omega
  | 1, _ => simp [tr, ti]; omega
  | 2, _ => simp [tr, ti]; omega
  | 3, _ => simp [tr, ti]; omega
theorem q_in (X Y : Nat → Int) (pl : Nat) (hx : ∀ j, j < 4 → In53 (X j) ∧ In53 (Y j)) : ∀ p, p ≤ 4 → (qre X Y pl p).natAbs ≤ p * 9007199254740992 ∧ (qim X Y pl p).natAbs ≤ p * 9007199254740992
  | 0, _ => by simp [qre, qim]
  | p + 1, hp => by
    have h1 := q_in X Y pl hx p (by omega)
    obtain ⟨a, b⟩ := hx p (by omega)
    obtain ⟨c, d⟩ := tr_in (n := p * pl % 4) (by omega) a b
    unfold In53 at c d
    unfold qre qim
    omega
theorem fl_i64 {b : Nat} {z : Int} (h : Fl b z) (hz : In53 z) : floatToIntVal .f64 b .i64 = some z :=
  fl_toInt h .i64 (by unfold In53 at hz; show (-9223372036854775808 : Int) ≤ _; omega) (by unfold In53 at hz; show _ ≤ (9223372036854775807 : Int); omega)
def QuQ (re im : Int) (w : World) (e : Ending) (w' : World) : Prop := Below w.heap.size w w' ∧
  ((im = 0 ∧ re % 4 = 0) → e = .returned (.tuple #[.int .i64 (re / 4), .bool true])) ∧ (¬ (im = 0 ∧ re % 4 = 0) → e = .returned (.tuple #[.int .i64 0, .bool false]))
set_option maxHeartbeats 1000000 in
theorem quarter_any (f : Nat → Cw) (X Y : Nat → Int) (hf : WF f X Y) (hx : ∀ j, j < 4 → In53 (X j) ∧ In53 (Y j)) (pl : Nat) (hpl : pl < 4) (w : World) :
    Calls Try.prog 19 #[.agg #[.complex .f64 (f 0).re (f 0).im, .complex .f64 (f 1).re (f 1).im, .complex .f64 (f 2).re (f 2).im, .complex .f64 (f 3).re (f 3).im], .int .i64 pl] w (QuQ (qre X Y pl 4) (qim X Y pl 4) w) := by
  have HF := Lib.hid hf
  have HX := Lib.hid hx
  have HB := Lib.hid (B4.new w (fcv f) 26)
  clear hf hx
  go_enter Try.func19, Try.ntmps19
  go_wp2
  go_loopw [6, 7, 12] (fun a b i wr => ∃ p : Nat, p ≤ 4 ∧ i = .int .i64 p ∧ a = .int .i64 (qre X Y pl p) ∧ b = .int .i64 (qim X Y pl p) ∧ Below w.heap.size w wr) (fun _ _ i _ => 4 - (intOf i).toNat)
  case atStart => exact ⟨0, by omega, rfl, rfl, rfl, (Below.refl _ w).alloc (Nat.le_refl _) _⟩
  case round =>
    obtain ⟨p, hp, rfl, rfl, rfl, hb⟩ := hrel
    by_cases h4 : p < 4
    · have h4' : (p : Int) < 4 := by omega
      have hix : ∀ W, (Instr.index 26 (.agg #[.complex .f64 (f 0).re (f 0).im, .complex .f64 (f 1).re (f 1).im, .complex .f64 (f 2).re (f 2).im, .complex .f64 (f 3).re (f 3).im]) (.int .i64 (p : Int))).run Try.prog W = .ok (.complex .f64 (f p).re (f p).im) W := fun W => index_wv f p h4 W
      have hq : p * pl ≤ 9 := Nat.mul_le_mul (by omega : p ≤ 3) (by omega : pl ≤ 3)
      have hq2 : (p : Int) * (pl : Int) = ((p * pl : Nat) : Int) := by simp
      have hmul : IntKind.i64.wrap ((p : Int) * (pl : Int)) = (p : Int) * (pl : Int) := by rw [hq2]; exact IntWalk.i64_in _ (by omega)
      obtain ⟨hX, hY⟩ := HX.out p h4
      have hn : ((p : Int) * (pl : Int) % 4).toNat = p * pl % 4 := by rw [hq2]; omega
      have ct : ∀ W, Calls Try.prog 20 #[.complex .f64 (f p).re (f p).im, .int .i64 ((p : Int) * (pl : Int))] W (CxQ (turnW (p * pl % 4) (f p)) W) := fun W => by
        have h := turned_any ((p : Int) * (pl : Int)) (by rw [hq2]; omega) (by rw [hq2]; omega) (f p) (X p) (Y p) (HF.out p h4) hX hY W
        rw [hn] at h; exact h
      have CT := Lib.hid ct
      have hcf := turnW_cf (p * pl % 4) (HF.out p h4) hX hY
      obtain ⟨i1, i2⟩ := tr_in (n := p * pl % 4) (by omega) hX hY
      have v1 := fl_i64 hcf.1 i1
      have v2 := fl_i64 hcf.2 i2
      obtain ⟨k1, k2⟩ := q_in X Y pl HX.out p hp
      have e1 : qre X Y pl (p + 1) = qre X Y pl p + tr (p * pl % 4) (X p) (Y p) := rfl
      have e2 : qim X Y pl (p + 1) = qim X Y pl p + ti (p * pl % 4) (X p) (Y p) := rfl
      have E1 := Lib.hid e1
      have E2 := Lib.hid e2
      unfold In53 at i1 i2
      clear ct hcf hX hY hn hq2 e1 e2 hq
      generalize tr (p * pl % 4) (X p) (Y p) = x at *
      generalize ti (p * pl % 4) (X p) (Y p) = y at *
      generalize turnW (p * pl % 4) (f p) = d at *
      generalize qre X Y pl p = sx at *
      generalize qim X Y pl p = sy at *
      have r1 : ∀ W, (convert 33 2 (.float .f64 d.re)).run Try.prog W = .ok (.int .i64 x) W := fun W => run_convert_float_int W _ _ _ _ _ _ (by rw [Try.underlying33]; rfl) Try.underlying2 v1
      have r2 : ∀ W, (convert 33 2 (.float .f64 d.im)).run Try.prog W = .ok (.int .i64 y) W := fun W => run_convert_float_int W _ _ _ _ _ _ (by rw [Try.underlying33]; rfl) Try.underlying2 v2
      have s1 : IntKind.i64.wrap (sx + x) = sx + x := IntWalk.i64_in _ (by omega)
      have s2 : IntKind.i64.wrap (sy + y) = sy + y := IntWalk.i64_in _ (by omega)
      clear v1 v2
      go_wp2_with (go_at_call 20; (with_reducible refine (CT.out _).mono ?_); rintro e w1 ⟨rfl, rfl⟩)
      exact ⟨⟨p + 1, by omega, by go_num, by rw [E1.out], by rw [E2.out], hb⟩, by simp [intOf]; omega⟩
    · obtain rfl : p = 4 := by omega
      obtain ⟨k1, k2⟩ := q_in X Y pl HX.out 4 hp
      generalize qre X Y pl 4 = sx at *
      generalize qim X Y pl 4 = sy at *
      have hq : sx.tdiv 4 = (if 0 ≤ sx then sx / 4 else -(-sx / 4)) := by
        split
        · exact Int.tdiv_eq_ediv_of_nonneg (by omega)
        · have h1 : (-sx).tdiv 4 = -sx / 4 := Int.tdiv_eq_ediv_of_nonneg (by omega)
          rw [Int.neg_tdiv] at h1; omega
      have hr : sx.tmod 4 = sx - 4 * sx.tdiv 4 := by have := Int.mul_tdiv_add_tmod sx 4; omega
      obtain ⟨q, hqe⟩ : ∃ q, sx.tdiv 4 = q := ⟨_, rfl⟩
      obtain ⟨r, hre⟩ : ∃ r, sx.tmod 4 = r := ⟨_, rfl⟩
      have hqb : q.natAbs ≤ 9007199254740992 := by rw [← hqe, hq]; split <;> omega
      by_cases hy : sy = 0
      · by_cases hm : sx % 4 = 0
        · have hr0 : r = 0 := by rw [← hre, hr, hq]; split <;> omega
          have hq4 : q = sx / 4 := by rw [← hqe, hq]; split <;> omega
          subst hy
          have HM := Lib.hid hm
          have HQ := Lib.hid hq4
          have b1 : q ≤ 9007199254740992 := by omega
          have b2 : -9007199254740992 ≤ q := by omega
          rw [hr0] at hre
          have hw : IntKind.i64.wrap q = q := IntWalk.i64_in _ (by omega)
          clear hq hr hm hq4 k1 k2 hqb hr0 h4 hp
          go_wp2
          go_ret2
          exact ⟨hb, fun _ => by rw [← HQ.out]; rfl, fun h => absurd ⟨rfl, HM.out⟩ h⟩
        · have hr0 : r ≠ 0 := by rw [← hre, hr, hq]; split <;> omega
          subst hy
          have HM := Lib.hid hm
          have hw : IntKind.i64.wrap q = q := IntWalk.i64_in _ (by omega)
          have hrb : (r == 0) = false := by simpa using hr0
          have hrn : (r != 0) = true := by simpa using hr0
          clear hq hr hm k1 k2 hqb hr0 h4 hp
          go_wp2
          go_ret2
          exact ⟨hb, fun h => absurd h.2 HM.out, fun _ => rfl⟩
      · have HY := Lib.hid hy
        have hyb : (sy == 0) = false := by simpa using hy
        have hyn : (sy != 0) = true := by simpa using hy
        have hw : IntKind.i64.wrap q = q := IntWalk.i64_in _ (by omega)
        clear hq hr hy k1 k2 hqb h4 hp
        go_wp2
        go_ret2
        exact ⟨hb, fun h => absurd h.1 HY.out, fun _ => rfl⟩
end Go.Proofs.Ytmecpbgjienidaa
