/-
  Logs that are cut: mathematics. No condition but those that each theorem states.
-/
import Derived.Test.YtdkgieaanpfhcaaGreatDoorFrI
namespace Go.Proofs.YtdkgieaanpfhcaaGreatDoor
open Vi

theorem rec_cut (n : Nat) : ∀ (r : List UInt8) (P : List UInt8) (b : Bool) (acc : List UInt8) (m : Nat), r.length + (if roomOf P.length = 0 then 1 else 0) ≤ n → m < (layAt P.length b r).length →
    recGo (P ++ (layAt P.length b r).take m) b P.length acc = none := by
  induction n with
  | zero =>
    intro r P b acc m h hm
    rw [layAt_last (by omega)] at hm ⊢
    refine rec_none (pread_cut (by omega) ?_)
    simpa [pce_len] using hm
  | succ n ih =>
    intro r P b acc m h hm
    obtain ⟨k1, k2, k3, k4⟩ := kind_ends b
    by_cases hr : r.length ≤ roomOf P.length
    · rw [layAt_last hr] at hm ⊢
      refine rec_none (pread_cut hr ?_)
      simpa [pce_len] using hm
    · have hb := kindOf_lt b false
      have htl : (r.take (roomOf P.length)).length = roomOf P.length := by rw [List.length_take]; omega
      have hmo := layAt_more (p := P.length) (b := b) (r := r) (by omega)
      obtain ⟨A, hA⟩ : ∃ A, A = List.replicate (gapOf P.length) (0 : UInt8) ++ pce (kindOf b false) (r.take (roomOf P.length)) := ⟨_, rfl⟩
      have hAl : A.length = gapOf P.length + (7 + (r.take (roomOf P.length)).length) := by rw [hA]; simp [pce_len]
      rw [← hA] at hmo
      rw [hmo] at hm ⊢
      by_cases hc : m < A.length
      · rw [List.take_append_of_le_length (by omega), hA]
        exact rec_none (pread_cut (by omega) (by omega))
      · have e1 : (A ++ layAt (P.length + A.length) true (r.drop (roomOf P.length))).take m = A ++ (layAt (P.length + A.length) true (r.drop (roomOf P.length))).take (m - A.length) := by
          rw [List.take_append, List.take_of_length_le (by omega)]
        have h1 := pread_laid (P := P) hb.1 hb.2 (s := r.take (roomOf P.length)) (by omega) ((layAt (P.length + A.length) true (r.drop (roomOf P.length))).take (m - A.length))
        rw [← hA] at h1
        rw [e1, rec_some (by simp) h1, if_pos k3, if_neg k4, show P.length + gapOf P.length + (7 + (r.take (roomOf P.length)).length) = (P ++ A).length by rw [List.length_append, hAl]; omega, ← List.append_assoc,
          show P.length + A.length = (P ++ A).length by rw [List.length_append]]
        refine ih _ (P ++ A) true _ _ ?_ ?_
        · have hz : (P ++ A).length % 512 = 0 := by
            rw [List.length_append, hAl, htl]; have := next_block P.length; rw [show P.length + (gapOf P.length + (7 + roomOf P.length)) = P.length + gapOf P.length + 7 + roomOf P.length by omega]; exact this
          rw [room_block hz, List.length_drop]
          by_cases h0 : roomOf P.length = 0
          · simp [h0] at h ⊢; omega
          · simp [h0] at h ⊢; omega
        · rw [List.length_append] at hm ⊢
          omega
theorem rread_cut (P r : List UInt8) {m : Nat} (h : m < (lay P.length r).length) : rread (P ++ (lay P.length r).take m) P.length = none := by
  unfold rread
  rw [lay_layAt] at h ⊢
  exact rec_cut _ r P false [] m (Nat.le_refl _) h
/-- Records, one behind the other. -/
def logOf : List UInt8 → List (List UInt8) → List UInt8
  | P, [] => P
  | P, s :: l => logOf (P ++ lay P.length s) l
def endsOf : List UInt8 → List (List UInt8) → List Nat
  | _, [] => []
  | P, s :: l => (P ++ lay P.length s).length :: endsOf (P ++ lay P.length s) l
theorem logOf_form : ∀ (l : List (List UInt8)) (P : List UInt8), ∃ X, logOf P l = P ++ X
  | [], P => ⟨[], by simp [logOf]⟩
  | s :: l, P => by
    obtain ⟨X, h⟩ := logOf_form l (P ++ lay P.length s)
    exact ⟨lay P.length s ++ X, by rw [logOf, h]; simp⟩
theorem ends_ge : ∀ (l : List (List UInt8)) (P : List UInt8), ∀ e ∈ endsOf P l, P.length ≤ e
  | [], _, e, h => by cases h
  | s :: l, P, e, h => by
    rw [endsOf] at h
    rcases List.mem_cons.1 h with rfl | h
    · simp
    · have := ends_ge l _ e h; rw [List.length_append] at this; omega
def cnt (k : Nat) (es : List Nat) : Nat := (es.filter (fun e => decide (e ≤ k))).length
theorem cnt_none {k : Nat} {es : List Nat} (h : ∀ e ∈ es, k < e) : cnt k es = 0 := by
  unfold cnt
  rw [List.length_eq_zero_iff, List.filter_eq_nil_iff]
  intro e he
  have := h e he
  simpa using this
theorem ends_len : ∀ (l : List (List UInt8)) (P : List UInt8), (endsOf P l).length = l.length
  | [], _ => rfl
  | s :: l, P => by rw [endsOf, List.length_cons, ends_len l]; rfl
theorem recs_cut : ∀ (l : List (List UInt8)) (P : List UInt8) (k : Nat), P.length ≤ k → recs ((logOf P l).take k) P.length = (l.zip (endsOf P l)).take (cnt k (endsOf P l))
  | [], P, k, h => by
    have e : (logOf P []).take k = P := List.take_of_length_le h
    rw [e, recs_none (rread_end P)]; simp
  | s :: l, P, k, h => by
    obtain ⟨X, hX⟩ := logOf_form l (P ++ lay P.length s)
    rw [logOf, endsOf]
    by_cases hc : (P ++ lay P.length s).length ≤ k
    · have ih := recs_cut l (P ++ lay P.length s) k hc
      have e : (logOf (P ++ lay P.length s) l).take k = P ++ (lay P.length s ++ X.take (k - (P ++ lay P.length s).length)) := by
        rw [hX, List.take_append, List.take_of_length_le hc, List.append_assoc]
      have hr := rread_laid P s (X.take (k - (P ++ lay P.length s).length))
      rw [← e] at hr
      rw [recs_some hr, show P.length + (lay P.length s).length = (P ++ lay P.length s).length by simp, ih]
      have hcn : cnt k ((P ++ lay P.length s).length :: endsOf (P ++ lay P.length s) l) = cnt k (endsOf (P ++ lay P.length s) l) + 1 := by
        unfold cnt; rw [List.filter_cons_of_pos (by simpa using hc)]; rfl
      rw [hcn]; rfl
    · have e : (logOf (P ++ lay P.length s) l).take k = P ++ (lay P.length s).take (k - P.length) := by
        rw [hX, List.append_assoc, List.take_append, List.take_of_length_le h, List.take_append_of_le_length (by rw [List.length_append] at hc; omega)]
      rw [e, recs_none (rread_cut P s (by rw [List.length_append] at hc; omega))]
      have hcn : cnt k ((P ++ lay P.length s).length :: endsOf (P ++ lay P.length s) l) = 0 := cnt_none (fun x hx => by
        rcases List.mem_cons.1 hx with rfl | hx
        · omega
        · have := ends_ge l _ x hx; omega)
      rw [hcn]; simp
theorem cnt_all : ∀ (l : List (List UInt8)) (P : List UInt8), cnt (logOf P l).length (endsOf P l) = l.length
  | [], P => rfl
  | s :: l, P => by
    obtain ⟨X, hX⟩ := logOf_form l (P ++ lay P.length s)
    have ih := cnt_all l (P ++ lay P.length s)
    rw [logOf, endsOf]
    unfold cnt at ih ⊢
    rw [List.filter_cons_of_pos (by rw [hX]; simp), List.length_cons, ih]; rfl
theorem last_end : ∀ (l : List (List UInt8)) (P : List UInt8), l ≠ [] → endOf (l.zip (endsOf P l)) = (logOf P l).length
  | [], _, h => absurd rfl h
  | [s], P, _ => by simp [endsOf, logOf, endOf]
  | s :: s2 :: l, P, _ => by
    have ih := last_end (s2 :: l) (P ++ lay P.length s) (by simp)
    rw [logOf, ← ih]
    simp [endsOf, endOf, List.getLast?_cons_cons]
theorem recs_all (l : List (List UInt8)) : recs (logOf [] l) 0 = l.zip (endsOf [] l) := by
  have h := recs_cut l [] (logOf [] l).length (by simp)
  rw [List.take_of_length_le (Nat.le_refl _), cnt_all] at h
  have e : (l.zip (endsOf [] l)).take l.length = l.zip (endsOf [] l) := List.take_of_length_le (by simp [ends_len])
  rw [e] at h
  exact h
theorem whole_log (l : List (List UInt8)) : endOf (recs (logOf [] l) 0) = (logOf [] l).length := by
  rw [recs_all]
  by_cases h : l = []
  · subst h; rfl
  · exact last_end l [] h
end Go.Proofs.YtdkgieaanpfhcaaGreatDoor
