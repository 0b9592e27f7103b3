/-
  What the document's own sorted pairs are: mathematics only. Conditions: as each theorem states.
-/
import Derived.Test.YtnnjbofkkaonoaaSkM
namespace Go.Proofs.Ytnnjbofkkaonoaa.Sk
open Go.RowKit

theorem ba_ext {a b : ByteArray} (h : a.data.toList = b.data.toList) : a = b := by
  cases a; cases b; simp at h; subst h; rfl
/-- the document's Put, from a place on -/
def rpGo (p : Pr) : List Pr → Bool → List Pr → List Pr
  | [], true, o => o
  | [], false, o => o ++ [p]
  | x :: l, d, o => rpGo p l (d || !lt x.1 p.1) ((if (!d && !lt x.1 p.1) = true then o ++ [p] else o) ++ (if x.1 = p.1 then [] else [x]))
theorem rp_keep {p x : Pr} {l o : List Pr} {d : Bool} (h : (!d && !lt x.1 p.1) = false) (hx : ¬ x.1 = p.1) : rpGo p (x :: l) d o = rpGo p l (d || !lt x.1 p.1) (o ++ [x]) := by
  rw [rpGo, if_neg (by rw [h]; decide), if_neg hx]
theorem rp_skip {p x : Pr} {l o : List Pr} {d : Bool} (h : (!d && !lt x.1 p.1) = false) (hx : x.1 = p.1) : rpGo p (x :: l) d o = rpGo p l (d || !lt x.1 p.1) o := by
  rw [rpGo, if_neg (by rw [h]; decide), if_pos hx, List.append_nil]
theorem rp_new {p x : Pr} {l o : List Pr} {d : Bool} (h : (!d && !lt x.1 p.1) = true) (hx : ¬ x.1 = p.1) : rpGo p (x :: l) d o = rpGo p l (d || !lt x.1 p.1) (o ++ [p] ++ [x]) := by
  rw [rpGo, if_pos h, if_neg hx]
theorem rp_swap {p x : Pr} {l o : List Pr} {d : Bool} (h : (!d && !lt x.1 p.1) = true) (hx : x.1 = p.1) : rpGo p (x :: l) d o = rpGo p l (d || !lt x.1 p.1) (o ++ [p]) := by
  rw [rpGo, if_pos h, if_pos hx, List.append_nil]
theorem rp_done (p : Pr) : ∀ (l : List Pr) (o : List Pr), (∀ x ∈ l, lt p.1 x.1 = true) → rpGo p l true o = o ++ l
  | [], o, _ => by rw [List.append_nil]; rfl
  | x :: l, o, h => by
    have hx := h x (List.mem_cons_self ..)
    have hne : ¬ x.1 = p.1 := fun e => by rw [e, lt_irr] at hx; cases hx
    rw [rp_keep rfl hne, Bool.true_or, rp_done p l _ (fun y hy => h y (List.mem_cons_of_mem _ hy)), List.append_assoc]; rfl
theorem rp_put (p : Pr) : ∀ (l o : List Pr), Srt l → rpGo p l false o = o ++ putL l p.1 p.2
  | [], o, _ => rfl
  | x :: l, o, h => by
    obtain ⟨h1, h2⟩ := List.pairwise_cons.1 h
    cases hl : lt x.1 p.1 with
    | true =>
      have hne : ¬ x.1 = p.1 := fun e => by rw [e, lt_irr] at hl; cases hl
      have ha := lt_anti hl
      rw [rp_keep (by rw [hl]; rfl) hne, hl, show (false || !true) = false from rfl, rp_put p l _ h2]
      unfold putL
      simp [hl, ha]
    | false =>
      have hall : ∀ y ∈ l, lt p.1 y.1 = true := fun y hy => by
        have hxy := h1 y hy
        cases hp : lt p.1 x.1 with
        | true => exact lt_trans hp hxy
        | false => rw [← lt_tri hl hp]; exact hxy
      have hlo : l.filter (fun y => lt y.1 p.1) = [] := filter_none (fun y hy => lt_anti (hall y hy))
      have hhi : l.filter (fun y => lt p.1 y.1) = l := filter_all hall
      by_cases hx : x.1 = p.1
      · rw [rp_swap (by rw [hl]; rfl) hx, hl, show (false || !false) = true from rfl, rp_done p l _ hall]
        unfold putL
        simp [hl, hlo, hhi, hx, lt_irr]
      · have hp : lt p.1 x.1 = true := by
          cases hp : lt p.1 x.1 with
          | true => rfl
          | false => exact absurd (lt_tri hl hp) hx
        rw [rp_new (by rw [hl]; rfl) hx, hl, show (false || !false) = true from rfl, rp_done p l _ hall]
        unfold putL
        simp [hl, hlo, hhi, hp]
theorem put_srt {l : List Pr} (h : Srt l) (k v : ByteArray) : Srt (putL l k v) := by
  unfold putL Srt
  rw [List.pairwise_append]
  refine ⟨h.filter _, ?_, ?_⟩
  · rw [List.pairwise_cons]
    exact ⟨fun y hy => (List.mem_filter.1 hy).2, h.filter _⟩
  · intro x hx y hy
    have h1 := (List.mem_filter.1 hx).2
    rcases List.mem_cons.1 hy with rfl | hy
    · exact h1
    · exact lt_trans h1 (List.mem_filter.1 hy).2
/-! finding, keeping -/
theorem find_first {f : Pr → Bool} : ∀ {l : List Pr} {j : Nat} (hj : j < l.length), (∀ i (hi : i < l.length), i < j → f l[i] = false) → f l[j] = true → l.find? f = some l[j]
  | x :: l, 0, _, _, h => by rw [List.find?_cons, show f x = true from h]; rfl
  | x :: l, j + 1, hj, hlo, h => by
    rw [List.find?_cons, show f x = false from hlo 0 (by simp) (by omega)]
    exact find_first (l := l) (j := j) (by simpa using hj) (fun i hi hij => hlo (i + 1) (by simpa using hi) (by omega)) h
theorem up_snoc {P : List Pr} {j : Nat} (h : j < P.length) (k : ByteArray) : upL (P.take (j + 1)) k = upL (P.take j) k ++ (if lt P[j].1 k = true then [] else [P[j]]) := by
  unfold upL
  rw [List.take_succ_eq_append_getElem h, List.filter_append]
  cases h2 : lt P[j].1 k <;> simp [h2]
theorem dn_step {P : List Pr} {j : Nat} (h : j < P.length) (k : ByteArray) : dnL (P.drop j) k = dnL (P.drop (j + 1)) k ++ (if (decide (k = ⟨#[]⟩) || !lt k P[j].1) = true then [P[j]] else []) := by
  unfold dnL
  rw [List.drop_eq_getElem_cons h, List.filter_cons]
  split <;> simp
theorem total_snoc {P : List Pr} {j : Nat} (h : j < P.length) : total (P.take (j + 1)) = total (P.take j) + (P[j].1.size + P[j].2.size) := by
  unfold total
  rw [List.take_succ_eq_append_getElem h, List.map_append, List.sum_append]; simp
end Go.Proofs.Ytnnjbofkkaonoaa.Sk
