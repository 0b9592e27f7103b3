/-
  What is seen at a number, when an entry is added: mathematics only. Conditions: as each theorem states.
-/
import Derived.Test.YtadejeoiffaimaaDoorMeU
namespace Go.Proofs.YtadejeoiffaimaaDoor.Me

theorem find_add {p : En → Bool} {e : En} (he : e.good) (hpe : p e = false) : ∀ (E : List En), (∀ x ∈ E, x.good) → E.Pairwise (fun x y => ahead x y = true) → (∀ x ∈ E, same3 x e = true → p x = false) → (addE E e).find? p = E.find? p
  | [], _, _, _ => by simp [addE, hpe]
  | x :: E, hg, hs, hx => by
    obtain ⟨h1, h2⟩ := List.pairwise_cons.1 hs
    have hgx := hg x (by simp)
    have hgE := fun y hy => hg y (List.mem_cons_of_mem x hy)
    cases ha : ahead x e with
    | true =>
      have hb : ahead e x = false := ahead_asym ha
      have ih := find_add he hpe E hgE h2 (fun y hy => hx y (List.mem_cons_of_mem x hy))
      have e1 : addE (x :: E) e = x :: addE E e := by
        unfold addE
        rw [List.filter_cons, List.filter_cons, ha, hb]; rfl
      rw [e1, List.find?_cons, List.find?_cons, ih]
    | false =>
      have hno : ∀ y ∈ E, ahead y e = false := fun y hy => by
        cases h : ahead y e with
        | false => rfl
        | true => rw [ahead_trans hgx (hgE y hy) he (h1 y hy) h] at ha; cases ha
      cases hb : ahead e x with
      | true =>
        have hall : ∀ y ∈ E, ahead e y = true := fun y hy => ahead_trans he hgx (hgE y hy) hb (h1 y hy)
        have e1 : addE (x :: E) e = e :: x :: E := by
          unfold addE
          rw [List.filter_cons, List.filter_cons, ha, hb, Sk.filter_none hno, Sk.filter_all hall]; rfl
        rw [e1, List.find?_cons, hpe]
      | false =>
        have hsame : same3 x e = true := by rw [same3, ha, hb]; rfl
        obtain ⟨k1, k2, k3⟩ := same3_eq hsame
        have hall : ∀ y ∈ E, ahead e y = true := fun y hy => by
          have := h1 y hy
          unfold ahead at this ⊢
          rw [← k1, ← k2, ← k3]; exact this
        have e1 : addE (x :: E) e = e :: E := by
          unfold addE
          rw [List.filter_cons, List.filter_cons, ha, hb, Sk.filter_none hno, Sk.filter_all hall]; rfl
        rw [e1, List.find?_cons, hpe, List.find?_cons, hx x (by simp) hsame]
theorem rget_key {E : List En} {e : En} (hg : ∀ x ∈ E, x.good) (he : e.good) (hs : E.Pairwise (fun x y => ahead x y = true)) {k : ByteArray} (hk : ¬ e.key = k) (at_ : Nat) : rgetE (addE E e) k at_ = rgetE E k at_ := by
  unfold rgetE
  refine find_add he (by simp [hk]) E hg hs (fun x _ h => ?_)
  have := (same3_eq h).1
  simp [this, hk]
theorem rget_seq {E : List En} {e : En} (hg : ∀ x ∈ E, x.good) (he : e.good) (hs : E.Pairwise (fun x y => ahead x y = true)) {at_ : Nat} (hk : at_ < e.seq) (k : ByteArray) : rgetE (addE E e) k at_ = rgetE E k at_ := by
  unfold rgetE
  have hn : ¬ e.seq ≤ at_ := by omega
  refine find_add he (by simp [hn]) E hg hs (fun x _ h => ?_)
  have := (same3_eq h).2.1
  simp [this, hn]
theorem rget_stays {E : List En} {e : En} {k : ByteArray} {at_ : Nat} (h : (rgetE E k at_).isSome = true) : (rgetE (addE E e) k at_).isSome = true := by
  unfold rgetE at *
  rw [List.find?_isSome] at h ⊢
  obtain ⟨x, hx, hp⟩ := h
  cases ha : ahead x e with
  | true => exact ⟨x, by unfold addE; simp [hx, ha], hp⟩
  | false =>
    cases hb : ahead e x with
    | true => exact ⟨x, by unfold addE; simp [hx, hb], hp⟩
    | false =>
      obtain ⟨k1, k2, _⟩ := same3_eq (show same3 x e = true by rw [same3, ha, hb]; rfl)
      exact ⟨e, by unfold addE; simp, by rw [← k1, ← k2]; exact hp⟩
theorem rget_at {E : List En} {k : ByteArray} {at_ : Nat} {x : En} (h : rgetE E k at_ = some x) : x ∈ E ∧ x.key = k ∧ x.seq ≤ at_ := by
  unfold rgetE at h
  have h1 := List.find?_some h
  exact ⟨List.mem_of_find?_eq_some h, by simpa using h1⟩
/-- what was noted is what is seen -/
def Noted (mp : ByteArray → Option En) (E : List En) (at_ : Nat) : Prop := ∀ k x, mp k = some x → rgetE E k at_ = some x
theorem noted_none (at_ : Nat) : Noted (fun _ => none) [] at_ := fun k x h => by cases h
theorem noted_seq {mp : ByteArray → Option En} {E : List En} {e : En} {at_ : Nat} (h : Noted mp E at_) (hg : ∀ x ∈ E, x.good) (he : e.good) (hs : E.Pairwise (fun x y => ahead x y = true)) (hk : at_ < e.seq) : Noted mp (addE E e) at_ :=
  fun k x hx => (rget_seq hg he hs hk k).trans (h k x hx)
theorem noted_no {mp : ByteArray → Option En} {E : List En} {e : En} {at_ : Nat} (h : Noted mp E at_) (hg : ∀ x ∈ E, x.good) (he : e.good) (hs : E.Pairwise (fun x y => ahead x y = true)) (hn : rgetE (addE E e) e.key at_ = none) : Noted mp (addE E e) at_ := fun k x hx => by
  by_cases hk : e.key = k
  · subst hk
    have := rget_stays (e := e) (show (rgetE E e.key at_).isSome = true by rw [h _ x hx]; rfl)
    rw [hn] at this; cases this
  · exact (rget_key hg he hs hk at_).trans (h k x hx)
theorem noted_yes {mp : ByteArray → Option En} {E : List En} {e y : En} {at_ : Nat} (h : Noted mp E at_) (hg : ∀ x ∈ E, x.good) (he : e.good) (hs : E.Pairwise (fun x y => ahead x y = true)) (hy : rgetE (addE E e) e.key at_ = some y) : Noted (fun k => if k = e.key then some y else mp k) (addE E e) at_ := fun k x hx => by
  have hx : (if k = e.key then some y else mp k) = some x := hx
  by_cases hk : k = e.key
  · rw [if_pos hk] at hx
    cases hx
    rw [hk]; exact hy
  · rw [if_neg hk] at hx
    exact (rget_key hg he hs (fun e => hk e.symm) at_).trans (h k x hx)
/-- a least entry stands where it is said to -/
theorem least_at {e : En} (hk : e.kind = 1 ∨ e.kind = 2) (at_ : Nat) : decide (ordE (least e.key at_) e < 0) = decide (e.seq ≤ at_) := by
  have h : ahead (least e.key at_) e = decide (e.seq ≤ at_) := by
    unfold ahead least
    simp only
    rw [if_pos trivial]
    by_cases h2 : at_ = e.seq
    · rw [if_pos h2, decide_eq_true (by omega), decide_eq_true (by omega)]
    · rw [if_neg h2]
      congr 1
      exact propext ⟨fun h => by omega, fun h => by omega⟩
  unfold ordE
  rw [h]
  cases hd : decide (e.seq ≤ at_) with
  | true => simp
  | false =>
    cases ahead e (least e.key at_) <;> simp
end Go.Proofs.YtadejeoiffaimaaDoor.Me
