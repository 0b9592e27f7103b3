/-
  The document's own disk: a crash. Conditions: as each theorem states.
-/
import Derived.Test.YtpeobjnamflibaaDkZd
import Derived.Deep.CutRange
namespace Go.Proofs.Ytpeobjnamflibaa.Dk
open Go.RowKit Go.Maps

theorem stepI_hit {s x : ByteArray} {p1 : List ByteArray} (h : ltB s x = true) : stepI s (p1, false) x = (p1 ++ [s, x], true) := by unfold stepI; rw [if_pos ⟨rfl, h⟩]
theorem stepI_miss {s x : ByteArray} {p1 : List ByteArray} (h : ltB s x = false) : stepI s (p1, false) x = (p1 ++ [x], false) := by unfold stepI; rw [if_neg (by rintro ⟨_, k⟩; rw [h] at k; cases k)]
theorem stepI_done {s x : ByteArray} {p1 : List ByteArray} : stepI s (p1, true) x = (p1 ++ [x], true) := by unfold stepI; rw [if_neg (by rintro ⟨k, _⟩; cases k)]
theorem foldI_perm (s : ByteArray) : ∀ (l : List ByteArray) (p1 : List ByteArray) (p2 : Bool) (pre : List ByteArray), (p2 = true → p1.Perm (s :: pre)) → (p2 = false → p1 = pre) →
    ((l.foldl (stepI s) (p1, p2)).2 = true → (l.foldl (stepI s) (p1, p2)).1.Perm (s :: (pre ++ l))) ∧ ((l.foldl (stepI s) (p1, p2)).2 = false → (l.foldl (stepI s) (p1, p2)).1 = pre ++ l)
  | [], p1, p2, pre, h1, h2 => ⟨fun h => by simpa using h1 h, fun h => by simpa using h2 h⟩
  | x :: l, p1, p2, pre, h1, h2 => by
    rw [List.foldl_cons, show pre ++ x :: l = (pre ++ [x]) ++ l by simp]
    cases p2
    · obtain rfl := h2 rfl
      cases hb : ltB s x
      · rw [stepI_miss hb]
        exact foldI_perm s l _ false _ (fun h => by cases h) (fun _ => rfl)
      · rw [stepI_hit hb]
        exact foldI_perm s l _ true _ (fun _ => List.perm_middle) (fun h => by cases h)
    · rw [stepI_done]
      exact foldI_perm s l _ true _ (fun _ => (h1 rfl).append_right [x]) (fun h => by cases h)
theorem insI_perm (s : ByteArray) (l : List ByteArray) : (insI s l).Perm (s :: l) := by
  have := foldI_perm s l [] false [] (fun h => by cases h) (fun _ => rfl)
  unfold insI foldI
  cases h : (l.foldl (stepI s) ([], false)).2
  · rw [if_neg (by simp), this.2 h]
    exact List.perm_append_comm (l₁ := l) (l₂ := [s])
  · rw [if_pos rfl]; exact this.1 h
theorem listI_perm : ∀ (k : Nat) (L : List RFile), L.length = k → (listI L).Perm (L.map (·.name))
  | 0, L, h => by rw [List.length_eq_zero_iff.1 h]; exact List.Perm.refl _
  | k + 1, L, h => by
    have hk : k < L.length := by omega
    have e := listI_take hk
    rw [List.take_of_length_le (by omega)] at e
    rw [e]
    have h1 := listI_perm k (L.take k) (by simp; omega)
    have h2 : L.map (·.name) = (L.take k).map (·.name) ++ [L[k].name] := by
      have h3 : L = L.take k ++ [L[k]] := by
        have := List.take_succ_eq_append_getElem hk
        rwa [List.take_of_length_le (by omega)] at this
      have h4 := congrArg (List.map (·.name)) h3
      rwa [List.map_append] at h4
    rw [h2]
    exact (insI_perm _ _).trans ((h1.cons _).trans (by simpa using (List.perm_append_comm (l₁ := [L[k].name]) (l₂ := (L.take k).map (·.name)))))
theorem mem_listI {L : List RFile} {x : ByteArray} : x ∈ listI L ↔ ∃ f ∈ L, f.name = x := by
  rw [(listI_perm L.length L rfl).mem_iff]; simp
end Go.Proofs.Ytpeobjnamflibaa.Dk
