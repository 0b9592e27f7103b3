/-
  Skip lists, as mathematics: places in the order of their keys, towers, links on levels; where a key stands; a tower more. Conditions: as each theorem states.
-/
import Derived.Test.YtadejeoiffaimaaDoorRows
import Derived.Laws.Cover1
import Derived.Laws.Strings
import Derived.WalkKit
namespace Go.Proofs.YtadejeoiffaimaaDoor.Sk
open Go.RowKit

theorem bl_nil (l : List UInt8) : Op.bytesLess l [] = false := by cases l <;> rfl
theorem bl_first (y : UInt8) (l : List UInt8) : Op.bytesLess [] (y :: l) = true := rfl
theorem bl_lt {x y : UInt8} (h : x.toNat < y.toNat) (l k : List UInt8) : Op.bytesLess (x :: l) (y :: k) = true := by
  have : x < y := UInt8.lt_iff_toNat_lt.2 h
  simp [Op.bytesLess, this]
theorem bl_gt {x y : UInt8} (h : y.toNat < x.toNat) (l k : List UInt8) : Op.bytesLess (x :: l) (y :: k) = false := by
  have h1 : ¬ x < y := fun e => by have := UInt8.lt_iff_toNat_lt.1 e; omega
  have h2 : ¬ x = y := fun e => by subst e; omega
  simp [Op.bytesLess, h1, h2]
theorem bl_eq (x : UInt8) (l k : List UInt8) : Op.bytesLess (x :: l) (x :: k) = Op.bytesLess l k := by
  have h1 : ¬ x < x := fun e => by have := UInt8.lt_iff_toNat_lt.1 e; omega
  simp [Op.bytesLess, h1]
theorem bl_irr : ∀ l : List UInt8, Op.bytesLess l l = false
  | [] => rfl
  | x :: l => by rw [bl_eq]; exact bl_irr l
theorem toNat_eq {x y : UInt8} (h : x.toNat = y.toNat) : x = y := UInt8.toNat_inj.1 h
theorem bl_trans : ∀ a b c : List UInt8, Op.bytesLess a b = true → Op.bytesLess b c = true → Op.bytesLess a c = true
  | _, _, [], _, h => by rw [bl_nil] at h; cases h
  | _, [], _ :: _, h, _ => by rw [bl_nil] at h; cases h
  | [], _ :: _, _ :: _, _, _ => rfl
  | x :: a, y :: b, z :: c, h, k => by
    by_cases h1 : y.toNat < x.toNat
    · rw [bl_gt h1] at h; cases h
    · by_cases h2 : z.toNat < y.toNat
      · rw [bl_gt h2] at k; cases k
      · by_cases h3 : x.toNat < z.toNat
        · exact bl_lt h3 a c
        · obtain rfl : x = y := toNat_eq (by omega)
          obtain rfl : x = z := toNat_eq (by omega)
          rw [bl_eq] at h k ⊢
          exact bl_trans a b c h k
theorem bl_tri : ∀ a b : List UInt8, Op.bytesLess a b = false → Op.bytesLess b a = false → a = b
  | [], [], _, _ => rfl
  | [], _ :: _, h, _ => by cases h
  | _ :: _, [], _, h => by cases h
  | x :: a, y :: b, h, k => by
    by_cases h1 : x.toNat < y.toNat
    · rw [bl_lt h1] at h; cases h
    · by_cases h2 : y.toNat < x.toNat
      · rw [bl_lt h2] at k; cases k
      · obtain rfl : x = y := toNat_eq (by omega)
        rw [bl_eq] at h k
        rw [bl_tri a b h k]

def lt (a b : ByteArray) : Bool := Op.bytesLess a.toList b.toList
theorem list_inj {a b : ByteArray} (h : a.toList = b.toList) : a = b := by
  rw [ByteArray.toList_eq, ByteArray.toList_eq] at h
  cases a; cases b; simp at h; rw [h]
theorem lt_irr (a : ByteArray) : lt a a = false := bl_irr _
theorem lt_trans {a b c : ByteArray} (h : lt a b = true) (k : lt b c = true) : lt a c = true := bl_trans _ _ _ h k
theorem lt_tri {a b : ByteArray} (h : lt a b = false) (k : lt b a = false) : a = b := by
  exact list_inj (bl_tri _ _ h k)
theorem lt_anti {a b : ByteArray} (h : lt a b = true) : lt b a = false := by
  cases e : lt b a with
  | false => rfl
  | true => have := lt_trans h e; rw [lt_irr] at this; cases this
theorem ge_trans {a b c : ByteArray} (h : lt b a = false) (k : lt b c = true) : lt a c = true := by
  cases e : lt a b with
  | true => exact lt_trans e k
  | false => rw [lt_tri e h]; exact k

/-- A list: how many towers; their keys, values, heights, links, by places from 1 on (place 0: the list's own links); the places in the order of keys. -/
structure Ls where
  n : Nat
  K : Nat → ByteArray
  V : Nat → ByteArray
  H : Nat → Nat
  nx : Nat → Nat → Nat
  S : List Nat
def atp (S : List Nat) (p : Nat) : Nat := (0 :: S).getD p 0
theorem atp_zero (S : List Nat) : atp S 0 = 0 := rfl
theorem atp_succ {S : List Nat} {p : Nat} (h : p < S.length) : atp S (p + 1) = S[p] := by simp [atp, h]
def nxt (H : Nat → Nat) (S : List Nat) (p lv : Nat) : Nat := ((S.drop p).find? (fun q => decide (lv < H q))).getD 0
def prv (H : Nat → Nat) (S : List Nat) (a lv : Nat) : Nat := ((S.take a).reverse.find? (fun q => decide (lv < H q))).getD 0

structure Ok (s : Ls) : Prop where
  len : s.S.length = s.n
  mem : ∀ p ∈ s.S, 1 ≤ p ∧ p ≤ s.n
  nodup : s.S.Nodup
  sorted : s.S.Pairwise (fun p q => lt (s.K p) (s.K q) = true)
  high : ∀ p ∈ s.S, 1 ≤ s.H p ∧ s.H p ≤ 12
  link : ∀ p lv, p ≤ s.n → lv < 12 → (p = 0 ∨ lv < s.H (atp s.S p)) → s.nx (atp s.S p) lv = nxt s.H s.S p lv

theorem drop_cons {α : Type} {S : List α} {p : Nat} (h : p < S.length) : S.drop p = S[p] :: S.drop (p + 1) := List.drop_eq_getElem_cons h
theorem nxt_hit {H : Nat → Nat} {S : List Nat} {p lv : Nat} (h : p < S.length) (hh : lv < H S[p]) : nxt H S p lv = S[p] := by
  unfold nxt; rw [drop_cons h, List.find?_cons]; simp [hh]
theorem nxt_miss {H : Nat → Nat} {S : List Nat} {p lv : Nat} (h : p < S.length) (hh : ¬ lv < H S[p]) : nxt H S p lv = nxt H S (p + 1) lv := by
  unfold nxt; rw [drop_cons h, List.find?_cons]; simp [hh]
theorem nxt_end {H : Nat → Nat} {S : List Nat} {p lv : Nat} (h : S.length ≤ p) : nxt H S p lv = 0 := by
  unfold nxt; rw [List.drop_of_length_le h]; rfl
theorem nxt_cases (H : Nat → Nat) (S : List Nat) (lv : Nat) : ∀ m p, S.length ≤ p + m →
    (nxt H S p lv = 0 ∧ ∀ i (h : i < S.length), p ≤ i → ¬ lv < H S[i]) ∨
    ∃ j, ∃ h : j < S.length, p ≤ j ∧ nxt H S p lv = S[j] ∧ lv < H S[j] ∧ ∀ i (h : i < S.length), p ≤ i → i < j → ¬ lv < H S[i]
  | 0, p, hm => .inl ⟨nxt_end (by omega), fun i h hi => by omega⟩
  | m + 1, p, hm => by
    by_cases hp : p < S.length
    · by_cases hh : lv < H S[p]
      · exact .inr ⟨p, hp, Nat.le_refl _, nxt_hit hp hh, hh, fun i h h1 h2 => by omega⟩
      · rw [nxt_miss hp hh]
        have hup : ∀ i (h : i < S.length), p ≤ i → (p + 1 ≤ i → ¬ lv < H S[i]) → ¬ lv < H S[i] := fun i h h1 h2 => by
          by_cases e : i = p
          · subst e; exact hh
          · exact h2 (by omega)
        rcases nxt_cases H S lv m (p + 1) (by omega) with ⟨h1, h2⟩ | ⟨j, hj, h1, h2, h3, h4⟩
        · exact .inl ⟨h1, fun i h hi => hup i h hi (h2 i h)⟩
        · exact .inr ⟨j, hj, by omega, h2, h3, fun i h hi hij => hup i h hi (fun h' => h4 i h h' hij)⟩
    · exact .inl ⟨nxt_end (by omega), fun i h hi => by omega⟩
theorem nxt_same {H : Nat → Nat} {S : List Nat} {lv : Nat} : ∀ m p, p + m ≤ S.length → (∀ i (h : i < S.length), p ≤ i → i < p + m → ¬ lv < H S[i]) → nxt H S p lv = nxt H S (p + m) lv
  | 0, _, _, _ => rfl
  | m + 1, p, hl, h => by
    rw [nxt_miss (by omega) (h p (by omega) (Nat.le_refl _) (by omega)), show p + (m + 1) = (p + 1) + m by omega]
    exact nxt_same m (p + 1) (by omega) (fun i hi h1 h2 => h i hi (by omega) (by omega))
theorem nxt_to {H : Nat → Nat} {S : List Nat} {lv p a : Nat} (hpa : p ≤ a) (ha : a ≤ S.length) (h : ∀ i (h : i < S.length), p ≤ i → i < a → ¬ lv < H S[i]) : nxt H S p lv = nxt H S a lv := by
  have := nxt_same (a - p) p (H := H) (S := S) (lv := lv) (by omega) (fun i hi h1 h2 => h i hi h1 (by omega))
  rwa [show p + (a - p) = a by omega] at this
theorem prv_zero (H : Nat → Nat) (S : List Nat) (lv : Nat) : prv H S 0 lv = 0 := by simp [prv]
theorem prv_hit {H : Nat → Nat} {S : List Nat} {a lv : Nat} (h : a < S.length) (hh : lv < H S[a]) : prv H S (a + 1) lv = S[a] := by
  unfold prv; rw [List.take_succ_eq_append_getElem h, List.reverse_append, List.reverse_singleton, List.singleton_append, List.find?_cons]; simp [hh]
theorem prv_miss {H : Nat → Nat} {S : List Nat} {a lv : Nat} (h : a < S.length) (hh : ¬ lv < H S[a]) : prv H S (a + 1) lv = prv H S a lv := by
  unfold prv; rw [List.take_succ_eq_append_getElem h, List.reverse_append, List.reverse_singleton, List.singleton_append, List.find?_cons]; simp [hh]
theorem prv_same {H : Nat → Nat} {S : List Nat} {lv : Nat} : ∀ m p, p + m ≤ S.length → (∀ i (h : i < S.length), p ≤ i → i < p + m → ¬ lv < H S[i]) → prv H S (p + m) lv = prv H S p lv
  | 0, _, _, _ => rfl
  | m + 1, p, hl, h => by
    rw [show p + (m + 1) = (p + m) + 1 by omega, prv_miss (by omega) (h (p + m) (by omega) (by omega) (by omega))]
    exact prv_same m p (by omega) (fun i hi h1 h2 => h i hi h1 (by omega))
theorem prv_to {H : Nat → Nat} {S : List Nat} {lv p a : Nat} (hpa : p ≤ a) (ha : a ≤ S.length) (h : ∀ i (h : i < S.length), p ≤ i → i < a → ¬ lv < H S[i]) (hp : p = 0 ∨ lv < H (atp S p)) : prv H S a lv = atp S p := by
  have := prv_same (a - p) p (H := H) (S := S) (lv := lv) (by omega) (fun i hi h1 h2 => h i hi h1 (by omega))
  rw [show p + (a - p) = a by omega] at this
  rw [this]
  match p, hp with
  | 0, _ => rw [prv_zero]; rfl
  | p + 1, hp =>
    rcases hp with hp | hp
    · omega
    · rw [atp_succ (by omega)] at hp ⊢
      exact prv_hit (by omega) hp
/-- where the last one on a level ahead of a place stands -/
theorem prv_at (H : Nat → Nat) (S : List Nat) (lv : Nat) : ∀ a, a ≤ S.length → ∃ p, p ≤ a ∧ (p = 0 ∨ lv < H (atp S p)) ∧ prv H S a lv = atp S p ∧ ∀ i (h : i < S.length), p ≤ i → i < a → ¬ lv < H S[i]
  | 0, _ => ⟨0, Nat.le_refl _, .inl rfl, prv_zero _ _ _, fun i h h1 h2 => by omega⟩
  | a + 1, ha => by
    by_cases hh : lv < H (S[a]'(by omega))
    · exact ⟨a + 1, Nat.le_refl _, .inr (by rw [atp_succ (by omega)]; exact hh), by rw [prv_hit (by omega) hh, atp_succ (by omega)], fun i h h1 h2 => by omega⟩
    · obtain ⟨p, h1, h2, h3, h4⟩ := prv_at H S lv a (by omega)
      refine ⟨p, by omega, h2, by rw [prv_miss (by omega) hh]; exact h3, fun i h h5 h6 => ?_⟩
      by_cases e : i = a
      · subst e; exact hh
      · exact h4 i h h5 (by omega)

def pos (s : Ls) (k : ByteArray) : Nat := (s.S.takeWhile fun p => lt (s.K p) k).length
theorem pos_le' (s : Ls) (k : ByteArray) : pos s k ≤ s.S.length := (List.takeWhile_prefix _).length_le
theorem tw_len {α : Type} (f : α → Bool) : ∀ (l : List α) (i : Nat) (h : i < l.length), i < (l.takeWhile f).length → f l[i] = true
  | [], i, h, _ => by simp at h
  | x :: l, i, h, hi => by
    rw [List.takeWhile_cons] at hi
    split at hi
    · match i with
      | 0 => assumption
      | i + 1 => exact tw_len f l i (by simpa using h) (by simpa using hi)
    · simp at hi
theorem tw_stop {α : Type} (f : α → Bool) : ∀ (l : List α) (h : (l.takeWhile f).length < l.length), f (l[(l.takeWhile f).length]'h) = false
  | [], h => by simp at h
  | x :: l, h => by
    by_cases e : f x = true
    · simp only [List.takeWhile_cons, e, ite_true, List.length_cons, List.getElem_cons_succ]
      exact tw_stop f l (by simpa [List.takeWhile_cons, e] using h)
    · have e' : f x = false := by simpa using e
      simp [List.takeWhile_cons, e']
theorem below_pos (s : Ls) (k : ByteArray) (i : Nat) (h : i < s.S.length) (hi : i < pos s k) : lt (s.K s.S[i]) k = true := tw_len _ s.S i h hi
theorem above_pos {s : Ls} (hs : s.S.Pairwise (fun p q => lt (s.K p) (s.K q) = true)) (k : ByteArray) (i : Nat) (h : i < s.S.length) (hi : pos s k ≤ i) : lt (s.K s.S[i]) k = false := by
  have hp : pos s k < s.S.length := by omega
  have h0 : lt (s.K s.S[pos s k]) k = false := tw_stop (fun p => lt (s.K p) k) s.S hp
  by_cases e : pos s k = i
  · subst e; exact h0
  · have := (List.pairwise_iff_getElem.1 hs) (pos s k) i hp h (by omega)
    cases e2 : lt (s.K s.S[i]) k with
    | false => rfl
    | true => rw [lt_trans this e2] at h0; cases h0
end Go.Proofs.YtadejeoiffaimaaDoor.Sk
