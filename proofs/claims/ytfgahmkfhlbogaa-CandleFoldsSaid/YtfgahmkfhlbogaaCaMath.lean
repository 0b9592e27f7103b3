/-
  Candles: joined, rows of them in spans; mathematics only. No condition but those stated.
-/
import Derived.Test.YtfgahmkfhlbogaaAmMath
namespace Go.Proofs.Ytfgahmkfhlbogaa.Ca
open Go.RowKit

/-- first, highest, lowest, last, how much, how many -/
structure Cd where
  f : Int
  h : Int
  l : Int
  a : Int
  s : Int
  n : Int
/-- price, size -/
structure Tk where
  p : Int
  s : Int
def z0 : Cd := ⟨0, 0, 0, 0, 0, 0⟩
def one (t : Tk) : Cd := ⟨t.p, t.p, t.p, t.p, t.s, 1⟩
/-- numbers without bounds -/
def plus (c d : Cd) : Cd := ⟨c.f, max c.h d.h, min c.l d.l, d.a, c.s + d.s, c.n + d.n⟩
/-- two, one behind the other; the error -/
def join (c d : Cd) : Cd × Int :=
  if c.n = 0 then (d, 0) else if d.n = 0 then (c, 0) else if Am.rg (c.s + d.s) then (⟨c.f, max c.h d.h, min c.l d.l, d.a, c.s + d.s, wrap64 (c.n + d.n)⟩, 0) else (z0, 24)
def joins : Cd → List Cd → Cd × Int
  | c, [] => (c, 0)
  | c, d :: l => if (join c d).2 = 0 then joins (join c d).1 l else (z0, (join c d).2)
theorem joins_cons0 {c d : Cd} (h : (join c d).2 = 0) (l : List Cd) : joins c (d :: l) = joins (join c d).1 l := by
  show (if (join c d).2 = 0 then joins (join c d).1 l else (z0, (join c d).2)) = _
  rw [if_pos h]
theorem joins_cons1 {c d : Cd} (h : (join c d).2 ≠ 0) (l : List Cd) : joins c (d :: l) = (z0, (join c d).2) := by
  show (if (join c d).2 = 0 then joins (join c d).1 l else (z0, (join c d).2)) = _
  rw [if_neg h]
theorem joins_snoc0 : ∀ (l : List Cd) (c d : Cd), (joins c l).2 = 0 → (join (joins c l).1 d).2 = 0 → joins c (l ++ [d]) = ((join (joins c l).1 d).1, 0)
  | [], c, d, _, h2 => by
    have h3 : (join c d).2 = 0 := h2
    rw [List.nil_append, joins_cons0 h3]; rfl
  | e :: l, c, d, h1, h2 => by
    by_cases h : (join c e).2 = 0
    · rw [joins_cons0 h] at h1 h2 ⊢
      rw [List.cons_append, joins_cons0 h, joins_snoc0 l _ _ h1 h2]
    · rw [joins_cons1 h] at h1
      exact absurd h1 h
theorem joins_snoc1 : ∀ (l : List Cd) (c d : Cd), (joins c l).2 = 0 → (join (joins c l).1 d).2 ≠ 0 → joins c (l ++ [d]) = (z0, (join (joins c l).1 d).2)
  | [], c, d, _, h2 => by
    have h3 : (join c d).2 ≠ 0 := h2
    rw [List.nil_append, joins_cons1 h3]; rfl
  | e :: l, c, d, h1, h2 => by
    by_cases h : (join c e).2 = 0
    · rw [joins_cons0 h] at h1 h2 ⊢
      rw [List.cons_append, joins_cons0 h, joins_snoc1 l _ _ h1 h2]
    · rw [joins_cons1 h] at h1
      exact absurd h1 h
/-- it stops at the first error -/
theorem joins_stop (l m : List Cd) (c : Cd) (h : (joins c l).2 ≠ 0) : joins c (l ++ m) = joins c l := by
  induction l generalizing c with
  | nil => exact absurd rfl h
  | cons e l ih =>
    simp only [List.cons_append, joins] at h ⊢
    by_cases h2 : (join c e).2 = 0
    · rw [if_pos h2] at h ⊢
      rw [if_pos h2]
      exact ih _ h
    · rw [if_neg h2, if_neg h2]
theorem join_err (c d : Cd) : (join c d).2 = 0 ∨ join c d = (z0, 24) := by
  unfold join
  split
  · exact .inl rfl
  · split
    · exact .inl rfl
    · split
      · exact .inl rfl
      · exact .inr rfl
theorem joins_err : ∀ (l : List Cd) (c : Cd), (joins c l).2 = 0 ∨ joins c l = (z0, 24)
  | [], _ => .inl rfl
  | d :: l, c => by
    simp only [joins]
    rcases join_err c d with h | h
    · rw [if_pos h]; exact joins_err l _
    · rw [h]; exact .inr rfl
/-- it is of 64 bits -/
structure Cd.ok (c : Cd) : Prop where
  f : Am.rg c.f
  h : Am.rg c.h
  l : Am.rg c.l
  a : Am.rg c.a
  s : Am.rg c.s
  n : Am.rg c.n
theorem rg0 : Am.rg 0 := by unfold Am.rg; omega
theorem rg1 : Am.rg 1 := by unfold Am.rg; omega
theorem z0_ok : z0.ok := ⟨rg0, rg0, rg0, rg0, rg0, rg0⟩
theorem one_ok {t : Tk} (hp : Am.rg t.p) (hs : Am.rg t.s) : (one t).ok := ⟨hp, hp, hp, hp, hs, rg1⟩
theorem join_ok {c d : Cd} (hc : c.ok) (hd : d.ok) : (join c d).1.ok := by
  unfold join
  split
  · exact hd
  · split
    · exact hc
    · split
      · rename_i h
        refine ⟨hc.f, ?_, ?_, hd.a, h, Am.wrap_bd _⟩
        · have := hc.h; have := hd.h; unfold Am.rg at *; simp only; omega
        · have := hc.l; have := hd.l; unfold Am.rg at *; simp only; omega
      · exact z0_ok
theorem joins_ok : ∀ (l : List Cd) (c : Cd), c.ok → (∀ d ∈ l, d.ok) → (joins c l).1.ok
  | [], _, hc, _ => hc
  | d :: l, c, hc, hl => by
    simp only [joins]
    split
    · exact joins_ok l _ (join_ok hc (hl d (by simp))) (fun e he => hl e (by simp [he]))
    · exact z0_ok

/-! ## spans -/
/-- where each span begins, how long it is: from i on -/
def parts (n len : Nat) : Nat → Nat → List (Nat × Nat)
  | 0, _ => []
  | f + 1, i => if i < len then (i, min n (len - i)) :: parts n len f (i + n) else []
def seg {α : Type} (l : List α) (p : Nat × Nat) : List α := (l.drop p.1).take p.2
/-- the spans -/
def spans {α : Type} (n : Nat) (l : List α) : List (List α) := (parts n l.length l.length 0).map (seg l)
def spansF {α : Type} (n : Nat) : Nat → List α → List (List α)
  | 0, _ => []
  | f + 1, l => if l = [] then [] else l.take n :: spansF n f (l.drop n)
theorem parts_shift {α : Type} (n : Nat) (l : List α) : ∀ (f i : Nat), (parts n l.length f i).map (seg l) = spansF n f (l.drop i)
  | 0, _ => rfl
  | f + 1, i => by
    simp only [parts, spansF]
    by_cases h : i < l.length
    · rw [if_pos h, if_neg (by intro e; have := congrArg List.length e; simp at this; omega)]
      simp only [List.map_cons]
      rw [parts_shift n l f (i + n), List.drop_drop]
      congr 1
      unfold seg
      simp only
      rcases Nat.le_total n (l.length - i) with h2 | h2
      · rw [Nat.min_eq_left h2]
      · rw [Nat.min_eq_right h2, List.take_of_length_le (by simp), List.take_of_length_le (by simpa using h2)]
    · rw [if_neg h, if_pos (by rw [List.drop_of_length_le (by omega)])]
      rfl
theorem spans_eq {α : Type} (n : Nat) (l : List α) : spans n l = spansF n l.length l := by
  have := parts_shift n l l.length 0
  simpa [spans] using this
/-- a candle of each span; the error -/
def rows : List (List Cd) → List Cd × Int
  | [] => ([], 0)
  | s :: r => if (joins z0 s).2 = 0 then (if (rows r).2 = 0 then ((joins z0 s).1 :: (rows r).1, 0) else ([], (rows r).2)) else ([], (joins z0 s).2)
def done (L : List (List Cd)) : List Cd := L.map fun s => (joins z0 s).1
theorem rows_app (L M : List (List Cd)) (h : ∀ s ∈ L, (joins z0 s).2 = 0) : rows (L ++ M) = if (rows M).2 = 0 then (done L ++ (rows M).1, 0) else ([], (rows M).2) := by
  induction L with
  | nil =>
    simp only [List.nil_append, done, List.map_nil]
    by_cases h0 : (rows M).2 = 0
    · rw [if_pos h0, ← h0]
    · rw [if_neg h0]
      cases M with
      | nil => exact absurd rfl h0
      | cons s r =>
        simp only [rows] at h0 ⊢
        split
        · rename_i h1
          rw [if_pos h1] at h0
          split
          · rename_i h2
            simp [h2] at h0
          · simp
        · simp
  | cons s r ih =>
    simp only [List.cons_append, rows]
    rw [if_pos (h s (by simp)), ih (fun t ht => h t (by simp [ht]))]
    by_cases h0 : (rows M).2 = 0
    · simp [h0, done]
    · simp [h0]
theorem rows_all {L : List (List Cd)} (h : ∀ s ∈ L, (joins z0 s).2 = 0) : rows L = (done L, 0) := by
  have := rows_app L [] h
  simpa [rows] using this
theorem rows_bad {L M : List (List Cd)} {s : List Cd} (h : ∀ s ∈ L, (joins z0 s).2 = 0) (hs : (joins z0 s).2 ≠ 0) : rows (L ++ s :: M) = ([], (joins z0 s).2) := by
  rw [rows_app L _ h]
  simp [rows, hs]
theorem rows_good : ∀ {L : List (List Cd)}, (rows L).2 = 0 → ∀ s ∈ L, (joins z0 s).2 = 0
  | [], _, s, hs => by simp at hs
  | t :: r, h, s, hs => by
    simp only [rows] at h
    by_cases h1 : (joins z0 t).2 = 0
    · rw [if_pos h1] at h
      have h2 : (rows r).2 = 0 := by
        split at h
        · assumption
        · exact h
      rcases List.mem_cons.1 hs with rfl | hs
      · exact h1
      · exact rows_good h2 s hs
    · rw [if_neg h1] at h
      exact absurd h h1

/-! ## what is folded again -/
/-- they may be candles of trades: so many -/
def Some (c : Cd) : Prop := 0 < c.n
def plusL : Cd → List Cd → Cd
  | c, [] => c
  | c, d :: l => plusL (plus c d) l
theorem plus_assoc (a b c : Cd) : plus (plus a b) c = plus a (plus b c) := by
  unfold plus
  simp only
  congr 1 <;> omega
theorem plusL_plus : ∀ (l : List Cd) (a b : Cd), plusL (plus a b) l = plus a (plusL b l)
  | [], _, _ => rfl
  | d :: l, a, b => by simp only [plusL]; rw [plus_assoc, plusL_plus l]
theorem plusL_app : ∀ (l m : List Cd) (c : Cd), plusL c (l ++ m) = plusL (plusL c l) m
  | [], _, _ => rfl
  | d :: l, m, c => plusL_app l m (plus c d)
/-- one of a row that isn't none -/
def sumL : List Cd → Cd
  | [] => z0
  | d :: l => plusL d l
theorem sumL_app {l m : List Cd} (hl : l ≠ []) (hm : m ≠ []) : sumL (l ++ m) = plus (sumL l) (sumL m) := by
  cases l with
  | nil => exact absurd rfl hl
  | cons c l =>
    cases m with
    | nil => exact absurd rfl hm
    | cons d m =>
      simp only [sumL, List.cons_append, plusL_app]
      simp only [plusL]
      rw [plusL_plus]
theorem sumL_flat : ∀ {L : List (List Cd)}, (∀ s ∈ L, s ≠ []) → sumL L.flatten = sumL (L.map sumL)
  | [], _ => rfl
  | [s], _ => by simp [sumL, plusL]
  | s :: t :: r, h => by
    have ih := sumL_flat (L := t :: r) (fun u hu => h u (by simp at hu ⊢; exact .inr hu))
    have h1 : (t :: r).flatten ≠ [] := by
      have := h t (by simp)
      intro e
      simp at e
      exact this e.1
    rw [List.flatten_cons, sumL_app (h s (by simp)) h1, ih]
    show _ = sumL ([sumL s] ++ (t :: r).map sumL)
    rw [sumL_app (by simp) (by simp)]
    rfl
def Small (b : Int) (l : List Cd) : Prop := ∀ d ∈ l, 0 < d.n ∧ d.n ≤ b
theorem joins_plus : ∀ (l : List Cd) (c : Cd), 0 < c.n → (∀ d ∈ l, 0 < d.n) → (plusL c l).n ≤ 9223372036854775807 → (joins c l).2 = 0 → (joins c l).1 = plusL c l
  | [], _, _, _, _, _ => rfl
  | d :: l, c, hc, hl, hb, h => by
    have hd := hl d (by simp)
    have hn : ∀ (l : List Cd) (c : Cd), 0 < c.n → (∀ d ∈ l, 0 < d.n) → c.n ≤ (plusL c l).n := by
      intro l
      induction l with
      | nil => intro c _ _; exact Int.le_refl _
      | cons e l ih =>
        intro c h1 h2
        have he := h2 e (by simp)
        have := ih (plus c e) (by simp only [plus]; omega) (fun x hx => h2 x (by simp [hx]))
        simp only [plus, plusL] at this ⊢
        omega
    simp only [joins] at h ⊢
    have hle := hn l (plus c d) (by simp only [plus]; omega) (fun x hx => hl x (by simp [hx]))
    simp only [plusL] at hb ⊢
    have hpn : (plus c d).n = c.n + d.n := rfl
    by_cases hr : Am.rg (c.s + d.s)
    · have e : join c d = (plus c d, 0) := by
        unfold join plus
        rw [if_neg (by omega), if_neg (by omega), if_pos hr]
        rw [Am.wrap_rg (by unfold Am.rg; omega)]
      rw [e] at h ⊢
      simp only [if_true] at h ⊢
      exact joins_plus l _ (by simp only [plus]; omega) (fun x hx => hl x (by simp [hx])) hb h
    · have e : join c d = (z0, 24) := by
        unfold join
        rw [if_neg (by omega), if_neg (by omega), if_neg hr]
      rw [e] at h
      simp at h
theorem joins_sum {l : List Cd} (h0 : l ≠ []) (hl : ∀ d ∈ l, 0 < d.n) (hb : (sumL l).n ≤ 9223372036854775807) (h : (joins z0 l).2 = 0) : (joins z0 l).1 = sumL l := by
  cases l with
  | nil => exact absurd rfl h0
  | cons d l =>
    have e : join z0 d = (d, 0) := by
      have h0 : z0.n = 0 := rfl
      unfold join; rw [if_pos h0]
    simp only [joins, e, if_true] at h ⊢
    exact joins_plus l d (hl d (by simp)) (fun x hx => hl x (by simp [hx])) hb h
/-- spans of spans -/
theorem spansF_nil {α : Type} (n f : Nat) : spansF n f ([] : List α) = [] := by cases f <;> simp [spansF]
theorem spansF_more {α : Type} (n : Nat) (hn : 0 < n) : ∀ (f g : Nat) (l : List α), l.length ≤ f → l.length ≤ g → spansF n f l = spansF n g l
  | 0, g, l, h, _ => by
    obtain rfl : l = [] := List.eq_nil_of_length_eq_zero (by omega)
    rw [spansF_nil, spansF_nil]
  | f + 1, 0, l, _, h => by
    obtain rfl : l = [] := List.eq_nil_of_length_eq_zero (by omega)
    rw [spansF_nil, spansF_nil]
  | f + 1, g + 1, l, h1, h2 => by
    simp only [spansF]
    by_cases h : l = []
    · rw [if_pos h, if_pos h]
    · rw [if_neg h, if_neg h, spansF_more n hn f g _ (by simp; omega) (by simp; omega)]
theorem spans_cons {α : Type} {n : Nat} (hn : 0 < n) {l : List α} (h : l ≠ []) : spans n l = l.take n :: spans n (l.drop n) := by
  rw [spans_eq, spans_eq]
  cases l with
  | nil => exact absurd rfl h
  | cons x l =>
    simp only [List.length_cons, spansF, if_neg h]
    rw [spansF_more n hn l.length ((x :: l).drop n).length _ (by simp; omega) (Nat.le_refl _)]
theorem spans_none {α : Type} (n : Nat) : spans n ([] : List α) = [] := rfl
theorem spans_ne {α : Type} {n : Nat} (hn : 0 < n) : ∀ (k : Nat) (l : List α), l.length ≤ k → ∀ s ∈ spans n l, s ≠ [] := by
  intro k
  induction k with
  | zero =>
    intro l hl s hs
    obtain rfl : l = [] := List.eq_nil_of_length_eq_zero (by omega)
    simp [spans_none] at hs
  | succ k ih =>
    intro l hl s hs
    by_cases h : l = []
    · subst h; simp [spans_none] at hs
    · rw [spans_cons hn h] at hs
      rcases List.mem_cons.1 hs with rfl | hs
      · intro e
        have := congrArg List.length e
        cases l with
        | nil => exact h rfl
        | cons x l => simp at this; omega
      · exact ih (l.drop n) (by simp; omega) s hs
theorem spans_flat {α : Type} {n : Nat} (hn : 0 < n) : ∀ (k : Nat) (l : List α), l.length ≤ k → (spans n l).flatten = l := by
  intro k
  induction k with
  | zero =>
    intro l hl
    obtain rfl : l = [] := List.eq_nil_of_length_eq_zero (by omega)
    rfl
  | succ k ih =>
    intro l hl
    by_cases h : l = []
    · subst h; rfl
    · rw [spans_cons hn h, List.flatten_cons, ih (l.drop n) (by
        have : l.length ≠ 0 := fun e => h (List.eq_nil_of_length_eq_zero e)
        simp; omega), List.take_append_drop]
/-- the first m spans are the first n * m things; what is behind them are the spans of what is behind these -/
theorem spans_take {α : Type} {n : Nat} (hn : 0 < n) : ∀ (m : Nat) (l : List α), ((spans n l).take m).flatten = l.take (n * m) ∧ (spans n l).drop m = spans n (l.drop (n * m))
  | 0, l => by simp
  | m + 1, l => by
    by_cases h : l = []
    · subst h; simp [spans_none]
    · rw [spans_cons hn h]
      obtain ⟨a, b⟩ := spans_take hn m (l.drop n)
      simp only [List.take_succ_cons, List.flatten_cons, List.drop_succ_cons]
      rw [a, b, List.drop_drop]
      refine ⟨?_, ?_⟩
      · rw [show n * (m + 1) = n + n * m by rw [Nat.mul_succ, Nat.add_comm], List.take_add]
      · rw [show n * (m + 1) = n + n * m by rw [Nat.mul_succ, Nat.add_comm]]
theorem spans_map {α β : Type} (f : α → β) {n : Nat} (hn : 0 < n) : ∀ (k : Nat) (l : List α), l.length ≤ k → spans n (l.map f) = (spans n l).map (List.map f) := by
  intro k
  induction k with
  | zero =>
    intro l hl
    obtain rfl : l = [] := List.eq_nil_of_length_eq_zero (by omega)
    rfl
  | succ k ih =>
    intro l hl
    by_cases h : l = []
    · subst h; rfl
    · rw [spans_cons hn h, spans_cons hn (by simpa using h), ← List.map_drop, ih (l.drop n) (by
        have : l.length ≠ 0 := fun e => h (List.eq_nil_of_length_eq_zero e)
        simp; omega), ← List.map_take]
      rfl
theorem spans_twice {α : Type} {n m : Nat} (hn : 0 < n) (hm : 0 < m) : ∀ (k : Nat) (l : List α), l.length ≤ k → (spans m (spans n l)).map List.flatten = spans (n * m) l := by
  intro k
  induction k with
  | zero =>
    intro l hl
    obtain rfl : l = [] := List.eq_nil_of_length_eq_zero (by omega)
    rfl
  | succ k ih =>
    intro l hl
    by_cases h : l = []
    · subst h; rfl
    · have h2 : spans n l ≠ [] := by rw [spans_cons hn h]; simp
      have h3 : 0 < n * m := Nat.mul_pos hn hm
      obtain ⟨a, b⟩ := spans_take hn m l
      rw [spans_cons hm h2, List.map_cons, a, b, spans_cons h3 h, ih _ (by
        have : l.length ≠ 0 := fun e => h (List.eq_nil_of_length_eq_zero e)
        simp; omega)]
/-! ## how far it went -/
/-- lowest, first and last, highest -/
structure Cd.tall (c : Cd) : Prop where
  lh : c.l ≤ c.h
  lf : c.l ≤ c.f
  ah : c.a ≤ c.h
theorem one_tall (t : Tk) : (one t).tall := ⟨Int.le_refl _, Int.le_refl _, Int.le_refl _⟩
theorem plus_tall {c d : Cd} (h : c.tall) (k : d.tall) : (plus c d).tall := by
  obtain ⟨a1, a2, a3⟩ := h
  obtain ⟨b1, b2, b3⟩ := k
  exact ⟨by simp only [plus]; omega, by simp only [plus]; omega, by simp only [plus]; omega⟩
theorem plusL_tall : ∀ (l : List Cd) (c : Cd), c.tall → (∀ d ∈ l, d.tall) → (plusL c l).tall
  | [], _, h, _ => h
  | d :: l, c, h, k => plusL_tall l (plus c d) (plus_tall h (k d (by simp))) (fun e he => k e (by simp [he]))
theorem sumL_tall {l : List Cd} (h0 : l ≠ []) (k : ∀ d ∈ l, d.tall) : (sumL l).tall := by
  cases l with
  | nil => exact absurd rfl h0
  | cons c l => exact plusL_tall l c (k c (by simp)) (fun e he => k e (by simp [he]))
theorem plusL_n : ∀ (l : List Cd) (c : Cd), (∀ d ∈ l, d.n = 1) → (plusL c l).n = c.n + l.length
  | [], c, _ => by simp [plusL]
  | d :: l, c, h => by
    have := plusL_n l (plus c d) (fun e he => h e (by simp [he]))
    have hd := h d (by simp)
    simp only [plusL, List.length_cons] at this ⊢
    rw [this]
    simp only [plus]
    omega
theorem sumL_n {l : List Cd} (h : ∀ d ∈ l, d.n = 1) : (sumL l).n = l.length := by
  cases l with
  | nil => rfl
  | cons c l =>
    have := plusL_n l c (fun e he => h e (by simp [he]))
    have hc := h c (by simp)
    simp only [sumL, List.length_cons]
    rw [this, hc]
    omega
end Go.Proofs.Ytfgahmkfhlbogaa.Ca
