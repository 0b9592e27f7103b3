/-
  What the document's answer reckons of a walk: mathematics; places, boxes, ends of rows of numbers: walked. Conditions: as each theorem states.
-/
import Derived.Test.YtligdamibjclnaaWkD
import Derived.Test.YtligdamibjclnaaWkE
namespace Go.Proofs.Ytligdamibjclnaa.Wk
open Go.RowKit Go.Shelf
open Go.Proofs.Ytligdamibjclnaa
open Se Fl
attribute [local go_sem] run_store_float run_store_complex

/-! ## the walk's numbers, trade by trade -/
def zwalk : Pz → Bool → Int → List Trd → List Pz
  | _, _, _, [] => []
  | z, f, la, t :: l => stepZ z f la t.price t.size :: zwalk (stepZ z f la t.price t.size) false t.price l
def endZ : Pz → Bool → Int → List Trd → Pz
  | z, _, _, [] => z
  | z, f, la, t :: l => endZ (stepZ z f la t.price t.size) false t.price l
theorem zwalk_len : ∀ (l : List Trd) (z : Pz) (f : Bool) (la : Int), (zwalk z f la l).length = l.length
  | [], _, _, _ => rfl
  | t :: l, _, _, _ => by simp [zwalk, zwalk_len l]
/-- the price ahead of what comes -/
def lastPr (la : Int) (l : List Trd) : Int := (l.getLastD ⟨0, 0, la, 0⟩).price
theorem lastPr_cons (la : Int) (t : Trd) (l : List Trd) : lastPr la (t :: l) = lastPr t.price l := by
  unfold lastPr
  rw [List.getLastD_cons]
  cases l with
  | nil => rfl
  | cons y l => rw [List.getLastD_cons, List.getLastD_cons]
theorem zwalk_snoc (t : Trd) : ∀ (l : List Trd) (z : Pz) (f : Bool) (la : Int), zwalk z f la (l ++ [t]) = zwalk z f la l ++ [stepZ (endZ z f la l) (f && l.isEmpty) (lastPr la l) t.price t.size]
  | [], z, f, la => by simp [zwalk, endZ, lastPr]
  | x :: l, z, f, la => by
    show _ :: zwalk _ false x.price (l ++ [t]) = _
    rw [zwalk_snoc t l, lastPr_cons]
    simp [zwalk, endZ]
theorem endZ_snoc (t : Trd) : ∀ (l : List Trd) (z : Pz) (f : Bool) (la : Int), endZ z f la (l ++ [t]) = stepZ (endZ z f la l) (f && l.isEmpty) (lastPr la l) t.price t.size
  | [], z, f, la => by simp [endZ, lastPr]
  | x :: l, z, f, la => by
    show endZ _ false x.price (l ++ [t]) = _
    rw [endZ_snoc t l, lastPr_cons]
    simp [endZ]
/-- how far the box may reach -/
structure Bz (z : Pz) (k : Nat) : Prop where
  lx : z.lx ≤ 0 ∧ -(1000 * k : Int) ≤ z.lx
  ly : z.ly ≤ 0 ∧ -(1000 * k : Int) ≤ z.ly
  hx : 0 ≤ z.hx ∧ z.hx ≤ 1000 * k
  hy : 0 ≤ z.hy ∧ z.hy ≤ 1000 * k
theorem bz_beg : Bz begZ 0 := ⟨by decide, by decide, by decide, by decide⟩
theorem bz_step {p : Pw} {z : Pz} {k : Nat} (h : PF p z k) (hb : Bz z k) (hk : k ≤ 1000) (la pr s : Int) : Bz (stepZ z (k == 0) la pr s) (k + 1) := by
  have h' := (then_pf h hk la pr s).1
  have bx := h'.bx
  have by_ := h'.by_
  obtain ⟨⟨a1, a2⟩, ⟨a3, a4⟩, ⟨a5, a6⟩, ⟨a7, a8⟩⟩ := hb
  simp only [stepZ] at bx by_ ⊢
  refine ⟨?_, ?_, ?_, ?_⟩ <;> simp only <;> omega
/-- words and numbers, place by place -/
theorem walk_at : ∀ (l : List Trd) (p : Pw) (z : Pz) (k : Nat) (la : Int), PF p z k → Bz z k → k + l.length ≤ 1000 →
    (PF (endW p la l) (endZ z (k == 0) la l) (k + l.length) ∧ Bz (endZ z (k == 0) la l) (k + l.length)) ∧
    ∀ i (h1 : i < (pwalk p la l).length) (h2 : i < (zwalk z (k == 0) la l).length), CF ((pwalk p la l)[i]).pos ((zwalk z (k == 0) la l)[i]).x ((zwalk z (k == 0) la l)[i]).y
  | [], p, z, k, la, h, hb, _ => ⟨⟨h, hb⟩, fun i h1 _ => by simp [pwalk] at h1⟩
  | t :: l, p, z, k, la, h, hb, hk => by
    simp only [List.length_cons] at hk
    have h' := (then_pf h (by omega) la t.price t.size).1
    have hb' := bz_step h hb (by omega) la t.price t.size
    obtain ⟨⟨g1, g2⟩, g3⟩ := walk_at l _ _ (k + 1) t.price h' hb' (by omega)
    have e : (k + 1 == 0) = false := by simp
    rw [e] at g1 g2 g3
    refine ⟨⟨?_, ?_⟩, fun i h1 h2 => ?_⟩
    · simp only [List.length_cons]; rw [show k + (l.length + 1) = k + 1 + l.length by omega]; exact g1
    · simp only [List.length_cons]; rw [show k + (l.length + 1) = k + 1 + l.length by omega]; exact g2
    · cases i with
      | zero => exact h'.pos
      | succ i => exact g3 i (by simpa [pwalk] using h1) (by simpa [zwalk] using h2)
/-- the least and the greatest of numbers, and of 0 -/
def ends (l : List Int) : Int × Int := l.foldl (fun s n => (min s.1 n, max s.2 n)) (0, 0)
theorem ends_snoc (l : List Int) (n : Int) : ends (l ++ [n]) = (min (ends l).1 n, max (ends l).2 n) := by simp [ends, List.foldl_append]
theorem ends_walk : ∀ (l : List Trd) (z : Pz) (f : Bool) (la : Int),
    ((zwalk z f la l).map (·.x)).foldl (fun s n => (min s.1 n, max s.2 n)) (z.lx, z.hx) = ((endZ z f la l).lx, (endZ z f la l).hx) ∧
    ((zwalk z f la l).map (·.y)).foldl (fun s n => (min s.1 n, max s.2 n)) (z.ly, z.hy) = ((endZ z f la l).ly, (endZ z f la l).hy)
  | [], _, _, _ => ⟨rfl, rfl⟩
  | t :: l, z, f, la => ends_walk l (stepZ z f la t.price t.size) false t.price
/-- turns, counted by prices -/
def turnsZ : Bool → Int → List Trd → Int
  | _, _, [] => 0
  | f, la, t :: l => (if f = false ∧ la ≠ t.price then 1 else 0) + turnsZ false t.price l
theorem turns_all : ∀ (l : List Trd) (p : Pw) (z : Pz) (k : Nat) (la n : Int), PF p z k → k + l.length ≤ 1000 → ((pwalk p la l).foldl crnStep (n, p.hd)).1 = n + turnsZ (k == 0) la l
  | [], p, z, k, la, n, _, _ => by simp [pwalk, turnsZ]
  | t :: l, p, z, k, la, n, h, hk => by
    simp only [List.length_cons] at hk
    have h' := (then_pf h (by omega) la t.price t.size).1
    have ih := turns_all l _ _ (k + 1) t.price (if ceqW (thenW p la t.price t.size).hd p.hd then n else n + 1) h' (by omega)
    have e : (k + 1 == 0) = false := by simp
    rw [e] at ih
    have hq : ceqW (thenW p la t.price t.size).hd p.hd = !decide ((k == 0) = false ∧ la ≠ t.price) := by
      rw [head_eq h'.h4 h.h4 h'.hd h.hd]
      have a := h.h4
      by_cases h0 : k = 0
      · subst h0; simp [stepZ, headTo]
      · have e0 : (k == 0) = false := by simpa using h0
        simp only [stepZ, headTo, e0, Bool.false_eq_true, if_false]
        by_cases h1 : la < t.price
        · rw [if_pos h1]
          have : la ≠ t.price := by omega
          have h2 : ¬ (z.h + 1) % 4 = z.h := by omega
          simp [this, h2]
        · by_cases h2 : t.price < la
          · rw [if_neg h1, if_pos h2]
            have : la ≠ t.price := by omega
            have h3 : ¬ (z.h + 3) % 4 = z.h := by omega
            simp [this, h3]
          · rw [if_neg h1, if_neg h2]
            have : la = t.price := by omega
            simp [this]
    show ((pwalk _ t.price l).foldl crnStep (crnStep (n, p.hd) _)).1 = _
    unfold crnStep at ih ⊢
    simp only at ih ⊢
    rw [ih, hq, show turnsZ (k == 0) la (t :: l) = (if (k == 0) = false ∧ la ≠ t.price then 1 else 0) + turnsZ false t.price l from rfl]
    by_cases hc : (k == 0) = false ∧ la ≠ t.price
    · rw [if_pos hc]; simp only [hc, decide_true, Bool.not_true, Bool.false_eq_true, if_false]; simp; omega
    · rw [if_neg hc]; simp only [hc, decide_false, Bool.not_false, if_true]; omega
theorem turnsZ_snoc (t : Trd) : ∀ (l : List Trd) (f : Bool) (la : Int), turnsZ f la (l ++ [t]) = turnsZ f la l + (if (f && l.isEmpty) = false ∧ lastPr la l ≠ t.price then 1 else 0)
  | [], f, la => by simp [turnsZ, lastPr]
  | x :: l, f, la => by
    show _ + turnsZ false x.price (l ++ [t]) = _
    rw [turnsZ_snoc t l, lastPr_cons]
    simp only [turnsZ, List.isEmpty_cons, Bool.false_and, Bool.and_false]
    omega
end Go.Proofs.Ytligdamibjclnaa.Wk
