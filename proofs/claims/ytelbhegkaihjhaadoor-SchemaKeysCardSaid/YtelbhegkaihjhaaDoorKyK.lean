/-
  Keys that are parsed as they were made: mathematics only. Conditions: as each theorem states.
-/
import Derived.Test.YtelbhegkaihjhaaDoorKyJ
import Derived.Test.YtelbhegkaihjhaaDoorKyNum
namespace Go.Proofs.YtelbhegkaihjhaaDoor
open Go.RowKit
open Vi

theorem unesc_esc : ∀ (s r : List UInt8), unesc (esc s ++ (0 :: 0 :: r)) = some (s, r)
  | [], r => unesc_end r
  | c :: s, r => by
    by_cases hc : c = 0
    · subst hc; rw [esc_cons0, List.cons_append, List.cons_append, unesc_on, unesc_esc s r]; rfl
    · rw [esc_cons hc, List.cons_append, unesc_other hc, unesc_esc s r]; rfl
theorem onward_len {l : List UInt8} {s r : List UInt8} (hu : ∀ k : List UInt8, k.length < l.length → ∀ s r, unesc k = some (s, r) → r.length < k.length) (h : onward l = some (s, r)) : r.length < l.length := by
  match l with
  | [] => cases h
  | d :: q =>
    simp only [onward] at h
    split at h
    · cases h; simp
    · split at h
      · cases hq : unesc q with
        | none => rw [hq] at h; cases h
        | some x =>
          obtain ⟨x1, x2⟩ := x
          rw [hq] at h; cases h
          have := hu q (by simp) _ _ hq
          simp; omega
      · cases h
theorem unesc_len (n : Nat) : ∀ l : List UInt8, l.length ≤ n → ∀ s r, unesc l = some (s, r) → r.length < l.length := by
  induction n with
  | zero =>
    intro l hl s r h
    match l with
    | [] => cases h
    | _ :: _ => simp at hl
  | succ n ih =>
    intro l hl s r h
    match l with
    | [] => cases h
    | c :: l =>
      have hl' : l.length ≤ n := by simpa using hl
      by_cases hc : c = 0
      · subst hc
        have e : unesc (0 :: l) = onward l := by rw [unesc_cut, cut0_zero, ahead_nil]
        rw [e] at h
        have := onward_len (fun k hk => ih k (by omega)) h
        simp; omega
      · rw [unesc_other hc] at h
        cases hq : unesc l with
        | none => rw [hq] at h; cases h
        | some x =>
          obtain ⟨x1, x2⟩ := x
          rw [hq] at h; cases h
          have := ih l hl' _ _ hq
          simp; omega
theorem pfirst_len {l : List UInt8} {p : KPart} {r : List UInt8} (h : pfirst l = some (p, r)) : r.length < l.length := by
  match l with
  | [] => cases h
  | c :: l =>
    rw [pfirst] at h
    split at h
    · cases hq : unesc l with
      | none => rw [hq] at h; cases h
      | some x =>
        obtain ⟨x1, x2⟩ := x
        rw [hq] at h; cases h
        have := unesc_len _ l (Nat.le_refl _) _ _ hq
        simp; omega
    · split at h
      · cases h
      · split at h
        · cases h; simp; omega
        · split at h
          · cases h; simp; omega
          · split at h
            · cases h; simp; omega
            · cases h
/-- the parts of a key's bytes; n rounds are enough for n bytes -/
def partsIn : Nat → List UInt8 → Option (List KPart)
  | _, [] => some []
  | 0, _ :: _ => none
  | n + 1, c :: l => match pfirst (c :: l) with
    | none => none
    | some x => (partsIn n x.2).map (x.1 :: ·)
theorem partsIn_more (n : Nat) : ∀ (m : Nat) (l : List UInt8), l.length ≤ n → n ≤ m → partsIn m l = partsIn n l := by
  induction n with
  | zero =>
    intro m l hl _
    match l with
    | [] => cases m <;> rfl
    | _ :: _ => simp at hl
  | succ n ih =>
    intro m l hl hm
    match l, m with
    | [], m => cases m <;> rfl
    | c :: l, m + 1 =>
      simp only [partsIn]
      cases hq : pfirst (c :: l) with
      | none => rfl
      | some x =>
        obtain ⟨x1, x2⟩ := x
        have := pfirst_len hq
        simp only [List.length_cons] at this hl
        simp only []
        rw [ih m x2 (by omega) (by omega)]
def pparts (l : List UInt8) : Option (List KPart) := partsIn l.length l
theorem pparts_nil : pparts [] = some [] := rfl
theorem pparts_none {l : List UInt8} (h0 : 0 < l.length) (h : pfirst l = none) : pparts l = none := by
  match l, h0 with
  | c :: l, _ => unfold pparts; simp only [List.length_cons, partsIn]; rw [h]
theorem pparts_some {l : List UInt8} {p : KPart} {r : List UInt8} (h : pfirst l = some (p, r)) : pparts l = (pparts r).map (p :: ·) := by
  match l with
  | [] => cases h
  | c :: l =>
    have := pfirst_len h
    simp only [List.length_cons] at this
    unfold pparts; simp only [List.length_cons, partsIn]; rw [h]
    simp only []
    rw [partsIn_more r.length l.length r (Nat.le_refl _) (by omega)]
theorem be8_big8 {n : Nat} (h : n < 18446744073709551616) (r : List UInt8) : be8 (big8 n ++ r) = n := by
  unfold be8
  have e : big (big8 n) = rev8 n := by unfold big8 rev8; rfl
  rw [List.take_left' (big8_len n), e]
  exact rev8_rev8 h
/-- what of a part its sort uses -/
def pplain (p : KPart) : KPart := if p.sort = 105 then kUp p.n else if p.sort = 100 then kDown p.n else if p.sort = 117 then kCount p.u else if p.sort = 116 then kText p.s else ⟨p.sort, 0, 0, ⟨#[]⟩⟩
theorem bs_back (s : ByteArray) : bs s.data.toList = s := rfl
theorem pfirst_bytes {p : KPart} (hp : p.ok) (h : (pbytes p).2 = 0) (r : List UInt8) : pfirst ((pbytes p).1 ++ r) = some (pplain p, r) := by
  obtain ⟨_, h1, h2, h3⟩ := hp
  have hll := lift_lt h1 h2
  unfold pplain
  by_cases e1 : p.sort = 105
  · have e : (pbytes p).1 = 105 :: big8 (lift p.n) := by unfold pbytes; rw [if_pos e1]
    rw [e, if_pos e1, List.cons_append, pfirst_i (by rw [List.length_append, big8_len]; omega), be8_big8 hll, List.drop_left' (big8_len _)]
    have : (lift p.n : Int) - 9223372036854775808 = p.n := by unfold lift; omega
    rw [this]
  by_cases e2 : p.sort = 100
  · have e : (pbytes p).1 = 100 :: big8 (18446744073709551615 - lift p.n) := by unfold pbytes; rw [if_neg e1, if_pos e2]
    rw [e, if_neg e1, if_pos e2, List.cons_append, pfirst_d (by rw [List.length_append, big8_len]; omega), be8_big8 (by omega), List.drop_left' (big8_len _)]
    have : 9223372036854775807 - ((18446744073709551615 - lift p.n : Nat) : Int) = p.n := by unfold lift at hll ⊢; omega
    rw [this]
  by_cases e3 : p.sort = 117
  · have e : (pbytes p).1 = 117 :: big8 p.u := by unfold pbytes; rw [if_neg e1, if_neg e2, if_pos e3]
    rw [e, if_neg e1, if_neg e2, if_pos e3, List.cons_append, pfirst_u (by rw [List.length_append, big8_len]; omega), be8_big8 h3, List.drop_left' (big8_len _)]
  by_cases e4 : p.sort = 116
  · by_cases e5 : 200 < p.s.size
    · unfold pbytes at h; rw [if_neg e1, if_neg e2, if_neg e3, if_pos e4, if_pos e5] at h; cases h
    · have e : (pbytes p).1 = 116 :: (esc p.s.data.toList ++ [0, 0]) := by unfold pbytes; rw [if_neg e1, if_neg e2, if_neg e3, if_pos e4, if_neg e5]
      rw [e, if_neg e1, if_neg e2, if_neg e3, if_pos e4, List.cons_append, pfirst_t, List.append_assoc]
      have : unesc (esc p.s.data.toList ++ ([0, 0] ++ r)) = some (p.s.data.toList, r) := unesc_esc _ r
      rw [this]; rfl
  · unfold pbytes at h; rw [if_neg e1, if_neg e2, if_neg e3, if_neg e4] at h; cases h
/-- a key is its parts' bytes, one behind the other -/
theorem mkGo_bytes : ∀ (l : List KPart) (k K : List UInt8), mkGo k l = (K, 0) → K = k ++ l.flatMap (fun p => (pbytes p).1) ∧ ∀ p ∈ l, (pbytes p).2 = 0
  | [], k, K, h => by cases h; simp
  | p :: l, k, K, h => by
    rw [mkGo] at h
    split at h
    · rename_i h0
      split at h
      · cases h
      · obtain ⟨e, ha⟩ := mkGo_bytes l _ K h
        exact ⟨by rw [e]; simp, fun q hq => by
          rcases List.mem_cons.1 hq with rfl | hq
          · exact h0
          · exact ha q hq⟩
    · rename_i h0
      injection h with _ h2
      exact absurd h2 h0
theorem pparts_bytes : ∀ (l : List KPart), (∀ p ∈ l, p.ok) → (∀ p ∈ l, (pbytes p).2 = 0) → pparts (l.flatMap (fun p => (pbytes p).1)) = some (l.map pplain)
  | [], _, _ => rfl
  | p :: l, ho, h => by
    rw [List.flatMap_cons, pparts_some (pfirst_bytes (ho p (by simp)) (h p (by simp)) _), pparts_bytes l (fun q hq => ho q (by simp [hq])) (fun q hq => h q (by simp [hq]))]
    rfl
/-- what is made is parsed as it was -/
theorem pparts_made {l : List KPart} {K : List UInt8} (ho : ∀ p ∈ l, p.ok) (h : mkGo [] l = (K, 0)) : pparts K = some (l.map pplain) := by
  obtain ⟨rfl, ha⟩ := mkGo_bytes l [] K h
  rw [List.nil_append]
  exact pparts_bytes l ho ha
end Go.Proofs.YtelbhegkaihjhaaDoor
