/-
  Versions: when files on levels may be: the mathematics. Conditions: as each theorem states.
-/
import Derived.Test.YtkocekogkpemiaaDoorEdMath
namespace Go.Proofs.YtkocekogkpemiaaDoor.Ve
open Go.Proofs.YtkocekogkpemiaaDoor
open Vi Ba Ed

abbrev lt (a b : ByteArray) : Bool := Op.bytesLess a.data.toList b.data.toList
/-- a file that comes to a level -/
def atl (i : Nat) (a : Fil) : Fil := { a with level := (i : Int) }
def aheadB (i : Nat) (a b : Fil) : Bool := if i = 0 then decide (b.number < a.number) else lt a.least b.least
def standsB (i : Nat) (a b : Fil) : Bool := aheadB i a b && (decide (i = 0) || lt a.most b.least)
def okF (i : Nat) (l : List Fil) (j : Nat) : Prop := ∀ h : j < l.length, chkA (atl i l[j]) = 0 ∧ (∀ h0 : 0 < j, standsB i (l[j - 1]'(by omega)) l[j] = true)
def nums (L : Nat → List Fil) : Nat → List Nat
  | 0 => []
  | i + 1 => nums L i ++ (L i).map Fil.number
def part (L : Nat → List Fil) (i j : Nat) : List Nat := nums L i ++ ((L i).take j).map Fil.number
theorem part_zero (L : Nat → List Fil) (i : Nat) : part L i 0 = nums L i := by simp [part]
theorem part_full (L : Nat → List Fil) (i : Nat) : part L i (L i).length = nums L (i + 1) := by simp [part, nums]
theorem part_next (L : Nat → List Fil) (i : Nat) {j : Nat} (h : j < (L i).length) : part L i (j + 1) = part L i j ++ [(L i)[j].number] := by
  unfold part
  rw [List.take_succ_eq_append_getElem h, List.map_append, ← List.append_assoc]
  rfl
theorem part_pre (L : Nat → List Fil) (i : Nat) (j : Nat) : ∃ r, nums L (i + 1) = part L i j ++ r := by
  refine ⟨((L i).drop j).map Fil.number, ?_⟩
  show nums L i ++ (L i).map Fil.number = _
  unfold part
  rw [List.append_assoc, ← List.map_append, List.take_append_drop]
theorem nums_pre (L : Nat → List Fil) (i : Nat) : ∀ k, ∃ r, nums L (i + k) = nums L i ++ r
  | 0 => ⟨[], by simp⟩
  | k + 1 => by
    obtain ⟨r, h⟩ := nums_pre L i k
    exact ⟨r ++ (L (i + k)).map Fil.number, by show nums L (i + k) ++ (L (i + k)).map Fil.number = _; rw [h, List.append_assoc]⟩
theorem part_in (L : Nat → List Fil) {i : Nat} (hi : i < 4) (j : Nat) : ∃ r, nums L 4 = part L i j ++ r := by
  obtain ⟨r, h⟩ := part_pre L i j
  obtain ⟨r2, h2⟩ := nums_pre L (i + 1) (4 - (i + 1))
  rw [show i + 1 + (4 - (i + 1)) = 4 by omega] at h2
  exact ⟨r ++ r2, by rw [h2, h, List.append_assoc]⟩
/-- may files on levels be? -/
def right (L : Nat → List Fil) : Prop := (∀ i, i < 4 → ∀ j, okF i (L i) j) ∧ (nums L 4).Nodup
/-- a list with what came last ahead: how many different ones it has -/
def card : List Nat → Nat
  | [] => 0
  | n :: N => if n ∈ N then card N else card N + 1
theorem card_le : ∀ N : List Nat, card N ≤ N.length
  | [] => Nat.le_refl _
  | n :: N => by
    have := card_le N
    unfold card
    split
    · simp; omega
    · simp; omega
theorem card_nodup : ∀ N : List Nat, card N = N.length ↔ N.Nodup
  | [] => by simp [card]
  | n :: N => by
    have ih := card_nodup N
    have hle := card_le N
    unfold card
    rw [List.nodup_cons]
    split
    · rename_i h
      constructor
      · intro e; simp at e; omega
      · intro e; exact absurd h e.1
    · rename_i h
      rw [List.length_cons, ← ih]
      constructor
      · intro e; exact ⟨h, by omega⟩
      · intro e; omega
theorem right_card {L : Nat → List Fil} (h : ∀ i, i < 4 → ∀ j, okF i (L i) j) : right L ↔ card (nums L 4).reverse = (nums L 4).length := by
  have := card_nodup (nums L 4).reverse
  rw [List.length_reverse] at this
  have hr : (nums L 4).reverse.Nodup ↔ (nums L 4).Nodup := (List.reverse_perm _).nodup_iff
  rw [this, hr]
  exact ⟨fun e => e.2, fun e => ⟨h, e⟩⟩
theorem right_not {L : Nat → List Fil} {i j : Nat} (hi : i < 4) (h : ¬ okF i (L i) j) : ¬ right L := fun e => h (e.1 i hi j)
theorem right_twice {L : Nat → List Fil} {i j : Nat} (hi : i < 4) (hj : j < (L i).length) (h : (L i)[j].number ∈ part L i j) : ¬ right L := fun e => by
  obtain ⟨r, hr⟩ := part_in L hi (j + 1)
  have hn := e.2
  rw [hr, part_next L i hj] at hn
  have h1 := (List.nodup_append.1 hn).1
  have h2 := (List.nodup_append.1 h1).2.2
  exact h2 _ h _ (by simp) rfl
theorem part_nodup {L : Nat → List Fil} {i j : Nat} (hj : j < (L i).length) (h : (part L i j).Nodup) (hn : (L i)[j].number ∉ part L i j) : (part L i (j + 1)).Nodup := by
  rw [part_next L i hj]
  refine List.nodup_append.2 ⟨h, by simp, fun a ha b hb e => ?_⟩
  simp at hb
  subst hb; subst e
  exact hn ha
theorem chkE_one (a : Fil) : chkE ⟨0, 0, 0, [a], []⟩ = chkA a := by
  unfold chkE
  rw [if_neg (by simp)]
  unfold chkL
  split
  · rename_i h
    rw [if_pos (by rfl), if_pos (by simp)]
    exact h.symm
  · rfl
theorem nums_len (L : Nat → List Fil) : ∀ i, (nums L (i + 1)).length = (nums L i).length + (L i).length := fun i => by simp [nums]
theorem atl_ok {a : Fil} (h : a.ok) {i : Nat} (hi : i < 4) : (atl i a).ok := by
  obtain ⟨_, _, h3, h4, h5, h6, h7⟩ := h
  exact ⟨by show -9223372036854775808 ≤ (i : Int); omega, by show (i : Int) ≤ 9223372036854775807; omega, h3, h4, h5, h6, h7⟩
end Go.Proofs.YtkocekogkpemiaaDoor.Ve
