/-
  Folding what was folded: mathematics. No condition but those stated.
-/
import Derived.Test.YtfgahmkfhlbogaaCaO
namespace Go.Proofs.Ytfgahmkfhlbogaa.Ca
open Go.RowKit

/-- exact candles of the spans -/
theorem spR_exact {α : Type} (cd : α → Cd) (l : List α) (m : Nat) (hm : 0 < m) (hn : ∀ x ∈ l, 0 < (cd x).n) (hb : ∀ s ∈ spans m l, (sumL (s.map cd)).n ≤ 9223372036854775807) (h : (spR cd l m).2 = 0) :
    (spR cd l m).1 = (spans m l).map fun s => sumL (s.map cd) := by
  unfold spR at h ⊢
  have hg := rows_good h
  rw [rows_all hg]
  unfold done
  rw [List.map_map]
  refine List.map_congr_left fun s hs => ?_
  have hne := spans_ne hm l.length l (Nat.le_refl _) s hs
  have hsub : ∀ x ∈ s, x ∈ l := fun x hx => by
    have h2 := spans_flat hm l.length l (Nat.le_refl _)
    have h3 : x ∈ (spans m l).flatten := List.mem_flatten.2 ⟨s, hs, hx⟩
    rwa [h2] at h3
  exact joins_sum (by simpa using hne) (fun d hd => by obtain ⟨x, hx, rfl⟩ := List.mem_map.1 hd; exact hn x (hsub x hx)) (hb s hs) (hg _ (List.mem_map.2 ⟨s, hs, rfl⟩))
theorem one_n (t : Tk) : (tkd t).n = 1 := rfl
theorem sum_one (l : List Tk) : (sumL (l.map tkd)).n = l.length := by
  have := sumL_n (l := l.map tkd) (fun d hd => by obtain ⟨x, _, rfl⟩ := List.mem_map.1 hd; rfl)
  simpa using this
theorem len_flat {α : Type} : ∀ (L : List (List α)), ∀ s ∈ L, s.length ≤ L.flatten.length
  | [], s, h => by simp at h
  | t :: r, s, h => by
    rw [List.flatten_cons, List.length_append]
    rcases List.mem_cons.1 h with rfl | h
    · omega
    · have := len_flat r s h
      omega
theorem spans_len {α : Type} {m : Nat} (hm : 0 < m) (l : List α) : ∀ s ∈ spans m l, s.length ≤ l.length := fun s hs => by
  have h2 := spans_flat hm l.length l (Nat.le_refl _)
  have h3 : s.length ≤ (spans m l).flatten.length := len_flat _ s hs
  rwa [h2] at h3
def S (s : List Tk) : Cd := sumL (s.map tkd)
theorem S_pos {s : List Tk} (h : s ≠ []) : 0 < (S s).n := by
  unfold S
  rw [sum_one]
  cases s with
  | nil => exact absurd rfl h
  | cons x s => simp
/-- candles of candles are candles of all -/
theorem S_flat {g : List (List Tk)} (h : ∀ s ∈ g, s ≠ []) : sumL (g.map S) = S g.flatten := by
  unfold S
  rw [List.map_flatten, sumL_flat (fun s hs => by obtain ⟨t, ht, rfl⟩ := List.mem_map.1 hs; simpa using h t ht), List.map_map]
  rfl
theorem folds_math (l : List Tk) (hl : l.length ≤ 1000) (n m : Nat) (hn : 0 < n) (hm : 0 < m) (h1 : (spR tkd l n).2 = 0) (h2 : (spR cdd (spR tkd l n).1 m).2 = 0) (h3 : (spR tkd l (n * m)).2 = 0) :
    (spR cdd (spR tkd l n).1 m).1 = (spR tkd l (n * m)).1 := by
  have hnm : 0 < n * m := Nat.mul_pos hn hm
  have x1 := spR_exact tkd l n hn (fun x _ => by rw [one_n]; decide) (fun s hs => by rw [sum_one]; have := spans_len hn l s hs; omega) h1
  have z1 := spR_exact tkd l (n * m) hnm (fun x _ => by rw [one_n]; decide) (fun s hs => by rw [sum_one]; have := spans_len hnm l s hs; omega) h3
  have x2 : (spR tkd l n).1 = (spans n l).map S := x1
  have sp : spans m ((spans n l).map S) = (spans m (spans n l)).map (List.map S) := spans_map S hm _ _ (Nat.le_refl _)
  have inner : ∀ g ∈ spans m (spans n l), ∀ s ∈ g, s ≠ [] := fun g hg s hs => by
    have h4 := spans_flat hm _ (spans n l) (Nat.le_refl _)
    have h5 : s ∈ (spans m (spans n l)).flatten := List.mem_flatten.2 ⟨g, hg, hs⟩
    rw [h4] at h5
    exact spans_ne hn l.length l (Nat.le_refl _) s h5
  have twice := spans_twice (α := Tk) hn hm l.length l (Nat.le_refl _)
  have y1 := spR_exact cdd (spR tkd l n).1 m hm (fun x hx => by
    rw [x2] at hx
    obtain ⟨s, hs, rfl⟩ := List.mem_map.1 hx
    exact S_pos (spans_ne hn l.length l (Nat.le_refl _) s hs)) (fun s hs => by
      rw [x2, sp] at hs
      obtain ⟨g, hg, rfl⟩ := List.mem_map.1 hs
      rw [show (g.map S).map cdd = g.map S by rw [List.map_map]; rfl, S_flat (inner g hg)]
      unfold S
      rw [sum_one]
      have h6 : g.flatten ∈ spans (n * m) l := by rw [← twice]; exact List.mem_map.2 ⟨g, hg, rfl⟩
      have := spans_len hnm l _ h6
      omega) h2
  rw [y1, z1, x2, sp, ← twice, List.map_map, List.map_map]
  refine List.map_congr_left fun g hg => ?_
  show sumL ((g.map S).map cdd) = S g.flatten
  rw [show (g.map S).map cdd = g.map S by rw [List.map_map]; rfl, S_flat (inner g hg)]
/-- how tall they are -/
theorem folds_tall (l : List Tk) (hl : l.length ≤ 1000) (n : Nat) (hn : 0 < n) (h1 : (spR tkd l n).2 = 0) : ∀ c ∈ (spR tkd l n).1, c.tall := fun c hc => by
  rw [spR_exact tkd l n hn (fun x _ => by rw [one_n]; decide) (fun s hs => by rw [sum_one]; have := spans_len hn l s hs; omega) h1] at hc
  obtain ⟨s, hs, rfl⟩ := List.mem_map.1 hc
  refine sumL_tall (by have := spans_ne hn l.length l (Nat.le_refl _) s hs; simpa using this) (fun d hd => ?_)
  obtain ⟨t, _, rfl⟩ := List.mem_map.1 hd
  exact one_tall t
end Go.Proofs.Ytfgahmkfhlbogaa.Ca
