/-
  The document's names stand in order, and so are the program's. Conditions: as each theorem states.
-/
import Derived.Test.YtpeobjnamflibaaDkZe
import Derived.Sort.Walk0
namespace Go.Proofs.Ytpeobjnamflibaa.Dk
open Go.RowKit Go.Maps

theorem ltB_iff {a b : ByteArray} : ltB a b = true ↔ a.data.toList < b.data.toList := by
  unfold ltB
  rw [Go.Proofs.bytesLess_eq, Lib.toList_data, Lib.toList_data]; simp
theorem ltB_no {a b : ByteArray} (h : ltB a b = false) : b.data.toList ≤ a.data.toList := by
  refine List.not_lt.1 fun k => ?_
  rw [ltB_iff.2 k] at h; cases h
theorem fold_done (s : ByteArray) : ∀ (l p : List ByteArray), l.foldl (stepI s) (p, true) = (p ++ l, true)
  | [], p => by simp
  | x :: l, p => by rw [List.foldl_cons, stepI_done, fold_done s l]; simp
theorem insI_cons_lt {s x : ByteArray} {l : List ByteArray} (h : ltB s x = true) : insI s (x :: l) = s :: x :: l := by
  unfold insI foldI
  rw [List.foldl_cons, stepI_hit h, fold_done]; simp
theorem fold_shift (s : ByteArray) : ∀ (l p : List ByteArray), l.foldl (stepI s) (p, false) = (p ++ (l.foldl (stepI s) ([], false)).1, (l.foldl (stepI s) ([], false)).2)
  | [], p => by simp
  | x :: l, p => by
    rw [List.foldl_cons, List.foldl_cons]
    cases h : ltB s x
    · rw [stepI_miss h, stepI_miss h, fold_shift s l (p ++ [x]), fold_shift s l ([] ++ [x])]; simp
    · rw [stepI_hit h, stepI_hit h, fold_done, fold_done]; simp
theorem insI_cons_ge {s x : ByteArray} {l : List ByteArray} (h : ltB s x = false) : insI s (x :: l) = x :: insI s l := by
  unfold insI foldI
  rw [List.foldl_cons, stepI_miss h, fold_shift s l ([] ++ [x])]
  cases h2 : (l.foldl (stepI s) ([], false)).2 <;> simp
def Le (a b : ByteArray) : Prop := a.data.toList ≤ b.data.toList
theorem insI_sorted (s : ByteArray) : ∀ l : List ByteArray, l.Pairwise Le → (insI s l).Pairwise Le
  | [], _ => by
    have : insI s [] = [s] := by unfold insI foldI; simp
    rw [this]; simp
  | x :: l, h => by
    obtain ⟨h1, h2⟩ := List.pairwise_cons.1 h
    cases hx : ltB s x
    · rw [insI_cons_ge hx]
      refine List.pairwise_cons.2 ⟨fun y hy => ?_, insI_sorted s l h2⟩
      rcases List.mem_cons.1 ((insI_perm s l).mem_iff.1 hy) with rfl | hy
      · exact ltB_no hx
      · exact h1 y hy
    · rw [insI_cons_lt hx]
      have hs : Le s x := List.le_of_lt (ltB_iff.1 hx)
      refine List.pairwise_cons.2 ⟨fun y hy => ?_, h⟩
      rcases List.mem_cons.1 hy with rfl | hy
      · exact hs
      · exact List.le_trans hs (h1 y hy)
theorem listI_sorted : ∀ (k : Nat) (L : List RFile), L.length = k → (listI L).Pairwise Le
  | 0, L, h => by rw [List.length_eq_zero_iff.1 h]; exact List.Pairwise.nil
  | k + 1, L, h => by
    have hk : k < L.length := by omega
    have e := listI_take hk
    rw [List.take_of_length_le (by omega)] at e
    rw [e]
    exact insI_sorted _ _ (listI_sorted k (L.take k) (by simp; omega))
/-- whatever is in order and has the same names is the document's row of them -/
theorem names_eq {L : List RFile} {ss : List (List UInt8)} (hs : ss.Pairwise (fun a b => a ≤ b)) (hp : ss.Perm (L.map (fun f => f.name.data.toList))) : ss = (listI L).map (fun x => x.data.toList) := by
  have h1 : ((listI L).map (fun x => x.data.toList)).Pairwise (fun a b => a ≤ b) := List.pairwise_map.2 (listI_sorted L.length L rfl)
  have h2 : ss.Perm ((listI L).map (fun x => x.data.toList)) := by
    refine hp.trans ?_
    have := ((listI_perm L.length L rfl).map (fun x : ByteArray => x.data.toList)).symm
    rwa [List.map_map] at this
  exact h2.eq_of_pairwise (fun a b _ _ h3 h4 => List.le_antisymm h3 h4) hs h1
end Go.Proofs.Ytpeobjnamflibaa.Dk
