/-
  What the law SeasonBack asks of sums and waves: mathematics. No condition but those stated.
-/
import Derived.Test.YtmecpbgjienidaaSeL
import Derived.Test.YtmecpbgjienidaaSeC
namespace Go.Proofs.Ytmecpbgjienidaa
open Se Fl

theorem smk_stable (l : List Int) {k : Nat} (h : l.length ≤ k) (j : Nat) : smk l k j = smk l l.length j := by
  induction k with
  | zero => have : l.length = 0 := by omega
            rw [this]
  | succ k ih =>
    rcases Nat.eq_or_lt_of_le h with e | h
    · rw [e]
    · have hg : l.getD k 0 = 0 := by rw [List.getD_eq_getElem?_getD, List.getElem?_eq_none (by omega)]; rfl
      show smk l k j + (if k % 4 = j then l.getD k 0 else 0) = _
      rw [hg, ih (by omega)]; simp
def bothTo (a b : List Int) (k : Nat) : List Int := (List.range k).map fun i => a.getD i 0 + b.getD i 0
theorem bothTo_len (a b : List Int) (k : Nat) : (bothTo a b k).length = k := by simp [bothTo]
theorem bothTo_succ (a b : List Int) (k : Nat) : bothTo a b (k + 1) = bothTo a b k ++ [a.getD k 0 + b.getD k 0] := by simp [bothTo, List.range_succ]
theorem bothTo_get (a b : List Int) {k i : Nat} (hi : i < k) : (bothTo a b k).getD i 0 = a.getD i 0 + b.getD i 0 := by
  rw [List.getD_eq_getElem?_getD, List.getElem?_eq_getElem (by simpa [bothTo] using hi)]; simp [bothTo]
theorem smk_both (a b : List Int) (M : Nat) : ∀ k, k ≤ M → ∀ j, smk (bothTo a b M) k j = smk a k j + smk b k j
  | 0, _, _ => by simp [smk]
  | k + 1, hk, j => by
    show smk (bothTo a b M) k j + (if k % 4 = j then (bothTo a b M).getD k 0 else 0) = (smk a k j + if k % 4 = j then a.getD k 0 else 0) + (smk b k j + if k % 4 = j then b.getD k 0 else 0)
    rw [smk_both a b M k (by omega) j, bothTo_get a b (by omega)]
    by_cases h : k % 4 = j <;> simp [h] <;> omega
theorem smk_both_all (a b : List Int) (j : Nat) : smk (bothTo a b (max a.length b.length)) (max a.length b.length) j = smk a a.length j + smk b b.length j := by
  rw [smk_both a b _ _ (Nat.le_refl _) j, smk_stable a (Nat.le_max_left ..) j, smk_stable b (Nat.le_max_right ..) j]
theorem w_add (s t u : Nat → Int) (h : ∀ j, j < 4 → u j = s j + t j) (m : Nat) : wre u m = wre s m + wre t m ∧ wim u m = wim s m + wim t m := by
  have e0 := h 0 (by decide)
  have e1 := h 1 (by decide)
  have e2 := h 2 (by decide)
  have e3 := h 3 (by decide)
  match m with
  | 0 => simp only [wre, wim, e0, e1, e2, e3]; omega
  | 1 => simp only [wre, wim, e0, e1, e2, e3]; omega
  | 2 => simp only [wre, wim, e0, e1, e2, e3]; omega
  | n + 3 => simp only [wre, wim, e0, e1, e2, e3]; omega
/-! ## later -/
def laterL (n : Nat) (a : List Int) : List Int := List.replicate n 0 ++ a
theorem later_get (n : Nat) (a : List Int) (i : Nat) : (laterL n a).getD (n + i) 0 = a.getD i 0 := by
  unfold laterL
  rw [List.getD_eq_getElem?_getD, List.getD_eq_getElem?_getD, List.getElem?_append_right (by simp)]; simp
theorem later_low (n : Nat) (a : List Int) {i : Nat} (h : i < n) : (laterL n a).getD i 0 = 0 := by
  unfold laterL
  rw [List.getD_eq_getElem?_getD, List.getElem?_append_left (by simpa using h)]; simp [h]
theorem smk_low (n : Nat) (a : List Int) : ∀ k, k ≤ n → ∀ j, smk (laterL n a) k j = 0
  | 0, _, _ => rfl
  | k + 1, hk, j => by
    show smk (laterL n a) k j + (if k % 4 = j then (laterL n a).getD k 0 else 0) = 0
    rw [smk_low n a k (by omega) j, later_low n a (by omega)]; simp
theorem smk_later (n : Nat) (a : List Int) : ∀ k, ∀ j, j < 4 → smk (laterL n a) (n + k) j = smk a k ((j + 4 - n % 4) % 4)
  | 0, j, _ => by rw [Nat.add_zero, smk_low n a n (Nat.le_refl _) j]; rfl
  | k + 1, j, hj => by
    show smk (laterL n a) (n + k) j + (if (n + k) % 4 = j then (laterL n a).getD (n + k) 0 else 0) = smk a k ((j + 4 - n % 4) % 4) + (if k % 4 = (j + 4 - n % 4) % 4 then a.getD k 0 else 0)
    rw [smk_later n a k j hj, later_get]
    have : ((n + k) % 4 = j) ↔ (k % 4 = (j + 4 - n % 4) % 4) := by omega
    simp only [this]
theorem later_len (n : Nat) (a : List Int) : (laterL n a).length = n + a.length := by simp [laterL]
theorem w_turn (s u : Nat → Int) (r : Nat) (hr : r < 4) (h : ∀ j, j < 4 → u j = s ((j + 4 - r) % 4)) (m : Nat) (hm : m < 4) :
    tr ((-((m : Int) * (r : Int))) % 4).toNat (wre s m) (wim s m) = wre u m ∧ ti ((-((m : Int) * (r : Int))) % 4).toNat (wre s m) (wim s m) = wim u m := by
  have e0 := h 0 (by decide)
  have e1 := h 1 (by decide)
  have e2 := h 2 (by decide)
  have e3 := h 3 (by decide)
  match r, hr with
  | 0, _ => match m, hm with
    | 0, _ => simp [wre, wim, tr, ti, e0, e1, e2, e3] <;> try omega
    | 1, _ => simp [wre, wim, tr, ti, e0, e1, e2, e3] <;> try omega
    | 2, _ => simp [wre, wim, tr, ti, e0, e1, e2, e3] <;> try omega
    | 3, _ => simp [wre, wim, tr, ti, e0, e1, e2, e3] <;> try omega
  | 1, _ => match m, hm with
    | 0, _ => simp [wre, wim, tr, ti, e0, e1, e2, e3] <;> try omega
    | 1, _ => simp [wre, wim, tr, ti, e0, e1, e2, e3] <;> try omega
    | 2, _ => simp [wre, wim, tr, ti, e0, e1, e2, e3] <;> try omega
    | 3, _ => simp [wre, wim, tr, ti, e0, e1, e2, e3] <;> try omega
  | 2, _ => match m, hm with
    | 0, _ => simp [wre, wim, tr, ti, e0, e1, e2, e3] <;> try omega
    | 1, _ => simp [wre, wim, tr, ti, e0, e1, e2, e3] <;> try omega
    | 2, _ => simp [wre, wim, tr, ti, e0, e1, e2, e3] <;> try omega
    | 3, _ => simp [wre, wim, tr, ti, e0, e1, e2, e3] <;> try omega
  | 3, _ => match m, hm with
    | 0, _ => simp [wre, wim, tr, ti, e0, e1, e2, e3] <;> try omega
    | 1, _ => simp [wre, wim, tr, ti, e0, e1, e2, e3] <;> try omega
    | 2, _ => simp [wre, wim, tr, ti, e0, e1, e2, e3] <;> try omega
    | 3, _ => simp [wre, wim, tr, ti, e0, e1, e2, e3] <;> try omega
/-! ## bounds -/
theorem getD_le {l : List Int} {B : Nat} (h : ∀ p ∈ l, p.natAbs ≤ B) (k : Nat) : (l.getD k 0).natAbs ≤ B := by
  rcases Nat.lt_or_ge k l.length with hk | hk
  · rw [List.getD_eq_getElem?_getD, List.getElem?_eq_getElem hk]; exact h _ (List.getElem_mem hk)
  · rw [List.getD_eq_getElem?_getD, List.getElem?_eq_none hk]; simp
theorem tot_le {l : List Int} {B : Nat} (h : ∀ p ∈ l, p.natAbs ≤ B) : ∀ k, tot l k ≤ k * B
  | 0 => by simp [tot]
  | k + 1 => by
    have h1 := tot_le h k
    have h2 := getD_le h k
    show tot l k + _ ≤ _
    rw [Nat.add_mul, Nat.one_mul]; omega
/-! ## what comes back -/
theorem q_back (s : Nat → Int) (p : Nat) (hp : p < 4) : qre (wre s) (wim s) p 4 = 4 * s p ∧ qim (wre s) (wim s) p 4 = 0 := by
  match p, hp with
  | 0, _ => simp [qre, qim, wre, wim, tr, ti]; omega
  | 1, _ => simp [qre, qim, wre, wim, tr, ti]; omega
  | 2, _ => simp [qre, qim, wre, wim, tr, ti]; omega
  | 3, _ => simp [qre, qim, wre, wim, tr, ti]; omega
end Go.Proofs.Ytmecpbgjienidaa
