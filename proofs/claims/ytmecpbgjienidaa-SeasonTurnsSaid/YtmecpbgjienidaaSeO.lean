/-
  Own rows of numbers; what the law SeasonTurns asks of turns. Conditions: as each theorem states.
-/
import Derived.Test.YtmecpbgjienidaaSeN
import Derived.Test.YtmecpbgjienidaaSeK
import Derived.Deep.AppendLies
namespace Go.Proofs.Ytmecpbgjienidaa
open Go.RowKit
open Se Fl
attribute [local go_sem] run_store_float run_store_complex

theorem B4.one {w : World} {b : Nat} {v : Nat → Value} (h : B4 w b v) (o : Obj) : B4 (w.alloc o) b v := h.below ((Below.refl w.heap.size w).alloc (Nat.le_refl _) o) h.1
theorem B4.on {w w' : World} {b : Nat} {v : Nat → Value} (h : B4 w b v) (hb : Below w.heap.size w w') : B4 w' b v := h.below hb h.1
def iCells (l : List Int) : List Value := l.map fun n => Value.int .i64 n
theorem iCells_snoc (l : List Int) (n : Int) : iCells (l ++ [n]) = iCells l ++ [.int .i64 n] := by simp [iCells]
theorem inrow_of {w : World} {B : Nat} {t : TypeId} {v : Value} {l : List Int} (h : w.ownsRow B t 1 v l.length (iCells l)) :
    ∃ A c, v = .slice A l.length c ∧ NRow w A l := by
  have hc := fun g hg => h.cells (g := g) hg
  rcases h.2 with ⟨rfl, h0⟩ | ⟨g, cap, cur, rfl, hb, hg, _⟩
  · exact ⟨none, 0, by rw [h0], fun h1 => by omega⟩
  · refine ⟨some ⟨g, 0, none⟩, cap, rfl, fun _ => ⟨_, rfl, (Array.getElem?_eq_some_iff.1 hg).1, fun i hi => ?_⟩⟩
    exact hc g rfl i (.int .i64 l[i]) (by simp [iCells, hi])
theorem owns_on {w wr w1 : World} {t : TypeId} {s : Nat} {v : Value} {n : Nat} {xs : List Value} (h : wr.ownsRow w.heap.size t s v n xs) (b : Below wr.heap.size wr w1) : w1.ownsRow w.heap.size t s v n xs :=
  h.kept (row := none) ⟨b.os, b.tape, b.output, b.size, fun k hk _ => b.block k hk⟩ (by cases v.ownBlock <;> simp)
theorem below_own {w wr w4 : World} {t : TypeId} {s : Nat} {v : Value} {n : Nat} {xs : List Value} (hb : Below w.heap.size w wr) (h : wr.ownsRow w.heap.size t s v n xs) (hg : wr.grownBy w4 v.ownBlock) : Below w.heap.size w w4 :=
  hb.trans ⟨hg.os, hg.tape, hg.output, hg.size, fun k hk => hg.block k (Nat.lt_of_lt_of_le hk hb.size) fun e => by have := (h.lt k e.symm).1; omega⟩
theorem news_one (w1 : World) (v : Value) (t : TypeId) : ∀ j u, [v][j]? = some u → (w1.alloc (.cells #[v] t)).cell? ((⟨w1.heap.size, 0, none⟩ : Addr).add j) = some u := by
  intro j u hj
  match j, hj with
  | 0, hj => simp at hj; subst hj; simp [Addr.add]

/-! ## turns -/
def unit : Cw := ⟨4607182418800017408, 0⟩
def T (r : Nat) : Cw := turnW r unit
theorem T_cf (r : Nat) : CF (T r) (tr r 1 0) (ti r 1 0) := turnW_cf r (c := unit) ⟨fl_one, fl_zero⟩ (by decide) (by decide)
theorem T_small (r : Nat) (h : r ≤ 3) : (tr r 1 0).natAbs ≤ 1 ∧ (ti r 1 0).natAbs ≤ 1 := by
  match r, h with
  | 0, _ => decide
  | 1, _ => decide
  | 2, _ => decide
  | 3, _ => decide
theorem T_mul (r q : Nat) (hr : r ≤ 3) (hq : q ≤ 3) : ∃ c : Cw, cMulBits (T r).re (T r).im (T q).re (T q).im = some (c.re, c.im) ∧ CF c (tr r 1 0 * tr q 1 0 - ti r 1 0 * ti q 1 0) (tr r 1 0 * ti q 1 0 + ti r 1 0 * tr q 1 0) := by
  have h1 := T_cf r
  have h2 := T_cf q
  have k : ∀ a b c d : Nat, a ≤ 3 → b ≤ 3 → True := fun _ _ _ _ _ _ => trivial
  have hb : (tr r 1 0 * tr q 1 0).natAbs ≤ 1 ∧ (ti r 1 0 * ti q 1 0).natAbs ≤ 1 ∧ (tr r 1 0 * ti q 1 0).natAbs ≤ 1 ∧ (ti r 1 0 * tr q 1 0).natAbs ≤ 1 := by
    obtain ⟨a1, a2⟩ := T_small r hr
    obtain ⟨b1, b2⟩ := T_small q hq
    refine ⟨?_, ?_, ?_, ?_⟩ <;> rw [Int.natAbs_mul] <;> exact Nat.le_trans (Nat.mul_le_mul ‹_› ‹_›) (by decide)
  obtain ⟨re, im, e, f1, f2⟩ := cx_mul h1.1 h1.2 h2.1 h2.2 (by omega) (by omega) (by omega) (by omega) (by omega) (by omega)
  exact ⟨⟨re, im⟩, e, f1, f2⟩
theorem T_round (r q : Nat) (hr : r ≤ 3) (hq : q = (4 - r) % 4) : tr r 1 0 * tr q 1 0 - ti r 1 0 * ti q 1 0 = 1 ∧ tr r 1 0 * ti q 1 0 + ti r 1 0 * tr q 1 0 = 0 := by
  subst hq
  match r, hr with
  | 0, _ => decide
  | 1, _ => decide
  | 2, _ => decide
  | 3, _ => decide
theorem T_next (r : Nat) (hr : r ≤ 3) : tr r 1 0 * 0 - ti r 1 0 * 1 = tr ((r + 1) % 4) 1 0 ∧ tr r 1 0 * 1 + ti r 1 0 * 0 = ti ((r + 1) % 4) 1 0 := by
  match r, hr with
  | 0, _ => decide
  | 1, _ => decide
  | 2, _ => decide
  | 3, _ => decide
theorem T_muli (r : Nat) (hr : r ≤ 3) : ∃ c : Cw, cMulBits (T r).re (T r).im 0 4607182418800017408 = some (c.re, c.im) ∧ ceq c (T ((r + 1) % 4)) = true := by
  have h1 := T_cf r
  obtain ⟨a1, a2⟩ := T_small r hr
  obtain ⟨re, im, e, f1, f2⟩ := cx_mul h1.1 h1.2 fl_zero fl_one (by omega) (by omega) (by omega) (by omega) (by omega) (by omega)
  obtain ⟨n1, n2⟩ := T_next r hr
  refine ⟨⟨re, im⟩, e, ?_⟩
  have hc : CF ⟨re, im⟩ (tr ((r + 1) % 4) 1 0) (ti ((r + 1) % 4) 1 0) := ⟨by rw [← n1]; exact f1, by rw [← n2]; exact f2⟩
  rw [ceq_of hc (T_cf _)]; simp
theorem T_back (r q : Nat) (hr : r ≤ 3) (hq : q = (4 - r) % 4) : ∃ c : Cw, cMulBits (T r).re (T r).im (T q).re (T q).im = some (c.re, c.im) ∧ ceq c unit = true := by
  obtain ⟨c, e, hc⟩ := T_mul r q hr (by omega)
  obtain ⟨n1, n2⟩ := T_round r q hr hq
  rw [n1, n2] at hc
  refine ⟨c, e, ?_⟩
  rw [ceq_of hc (show CF unit 1 0 from ⟨fl_one, fl_zero⟩)]; simp
theorem T_self (r : Nat) : ceq (T r) (T r) = true := by rw [ceq_of (T_cf r) (T_cf r)]; simp
/-- What ceq says of its parts. -/
theorem ceq_parts {a b : Cw} (h : ceq a b = true) : (FloatKind.f64.format.order a.re b.re == some .eq) = true ∧ (FloatKind.f64.format.order a.im b.im == some .eq) = true := by
  unfold ceq at h; simpa using h
/-! ## rows of four numbers held against each other -/
theorem part_i0 (a b c d : Int) (w : World) : (part 2 #[.int .i64 a, .int .i64 b, .int .i64 c, .int .i64 d] (0 * Try.prog.cellsOf 2)).run Try.prog w = .ok (.int .i64 a) w := by kernel_rfl
theorem part_i1 (a b c d : Int) (w : World) : (part 2 #[.int .i64 a, .int .i64 b, .int .i64 c, .int .i64 d] (1 * Try.prog.cellsOf 2)).run Try.prog w = .ok (.int .i64 b) w := by kernel_rfl
theorem part_i2 (a b c d : Int) (w : World) : (part 2 #[.int .i64 a, .int .i64 b, .int .i64 c, .int .i64 d] (2 * Try.prog.cellsOf 2)).run Try.prog w = .ok (.int .i64 c) w := by kernel_rfl
theorem part_i3 (a b c d : Int) (w : World) : (part 2 #[.int .i64 a, .int .i64 b, .int .i64 c, .int .i64 d] (3 * Try.prog.cellsOf 2)).run Try.prog w = .ok (.int .i64 d) w := by kernel_rfl
theorem equal_ints (q : Int) (w : World) :
    (Op.equalIn 10000 37 (.agg #[.int .i64 q, .int .i64 q, .int .i64 q, .int .i64 q]) (.agg #[.int .i64 q, .int .i64 q, .int .i64 q, .int .i64 q])).run Try.prog w = .ok true w := by
  obtain ⟨i, hi⟩ : ∃ i, Try.prog.info? 2 = some i := ⟨_, rfl⟩
  have he : (Op.equalIn (9998 + 1) 2 (.int .i64 q) (.int .i64 q)).run Try.prog w = .ok true w := by
    rw [run_equalIn_int w 9998 2 .i64 .i64 q q Try.underlying2]; simp
  rw [run_equalIn_array w 9999 _ _ Try.underlying37 hi, show List.range 4 = [0, 1, 2, 3] from rfl]
  rw [items_step (part_i0 _ _ _ _ w) (part_i0 _ _ _ _ w) he, items_step (part_i1 _ _ _ _ w) (part_i1 _ _ _ _ w) he, items_step (part_i2 _ _ _ _ w) (part_i2 _ _ _ _ w) he, items_step (part_i3 _ _ _ _ w) (part_i3 _ _ _ _ w) he, items_end]
  rfl
/-! ## the wave that isn't one -/
def odd (re im : Int) : Nat → Cw := fun j => if j = 0 then ⟨floatOfInt .f64 re, floatOfInt .f64 im⟩ else c0
def first (x : Int) : Nat → Int := fun j => if j = 0 then x else 0
theorem odd_wf {re im : Int} (h1 : In53 re) (h2 : In53 im) : WF (odd re im) (first re) (first im) := fun j _ => by
  unfold odd first
  by_cases h : j = 0
  · subst h; exact ⟨fl_int h1, fl_int h2⟩
  · simp only [h, if_false]; exact cf_zero
theorem first_in {x : Int} (h : In53 x) (j : Nat) : In53 (first x j) := by
  unfold first; split
  · exact h
  · unfold In53; decide
theorem tr_none (n : Nat) : tr n 0 0 = 0 ∧ ti n 0 0 = 0 := by
  induction n with
  | zero => exact ⟨rfl, rfl⟩
  | succ n ih => exact ih
theorem first_q (re im : Int) (pl : Nat) : qre (first re) (first im) pl 4 = re ∧ qim (first re) (first im) pl 4 = im := by
  have a : ∀ n, tr n 0 0 = 0 ∧ ti n 0 0 = 0 := tr_none
  simp [qre, qim, first, (a _).1, (a _).2, tr, ti]
end Go.Proofs.Ytmecpbgjienidaa
