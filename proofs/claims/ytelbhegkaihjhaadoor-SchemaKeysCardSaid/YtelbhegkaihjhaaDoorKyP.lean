/-
  The order of keys is that of rows: mathematics only. Conditions: as each theorem states.
-/
import Derived.Test.YtelbhegkaihjhaaDoorKyO
namespace Go.Proofs.YtelbhegkaihjhaaDoor
open Go.RowKit
open Vi

/-- what a part's bytes are, by its sort -/
theorem pbytes_cases {p : KPart} (h : (pbytes p).2 = 0) :
    (p.sort = 105 ∧ (pbytes p).1 = 105 :: big8 (lift p.n)) ∨ (p.sort = 100 ∧ (pbytes p).1 = 100 :: big8 (18446744073709551615 - lift p.n)) ∨ (p.sort = 117 ∧ (pbytes p).1 = 117 :: big8 p.u) ∨ (p.sort = 116 ∧ (pbytes p).1 = 116 :: (esc p.s.data.toList ++ [0, 0])) := by
  unfold pbytes at h ⊢
  by_cases e1 : p.sort = 105
  · exact .inl ⟨e1, by rw [if_pos e1]⟩
  by_cases e2 : p.sort = 100
  · exact .inr (.inl ⟨e2, by rw [if_neg e1, if_pos e2]⟩)
  by_cases e3 : p.sort = 117
  · exact .inr (.inr (.inl ⟨e3, by rw [if_neg e1, if_neg e2, if_pos e3]⟩))
  by_cases e4 : p.sort = 116
  · by_cases e5 : 200 < p.s.size
    · rw [if_neg e1, if_neg e2, if_neg e3, if_pos e4, if_pos e5] at h; cases h
    · exact .inr (.inr (.inr ⟨e4, by rw [if_neg e1, if_neg e2, if_neg e3, if_pos e4, if_neg e5]⟩))
  · rw [if_neg e1, if_neg e2, if_neg e3, if_neg e4] at h; cases h
theorem bl_head {p q : KPart} (h1 : (pbytes p).2 = 0) (h2 : (pbytes q).2 = 0) (h : ¬ p.sort = q.sort) (r s : List UInt8) :
    Op.bytesLess ((pbytes p).1 ++ r) ((pbytes q).1 ++ s) = decide (p.sort < q.sort) := by
  rcases pbytes_cases h1 with ⟨a1, b1⟩ | ⟨a1, b1⟩ | ⟨a1, b1⟩ | ⟨a1, b1⟩ <;> rcases pbytes_cases h2 with ⟨a2, b2⟩ | ⟨a2, b2⟩ | ⟨a2, b2⟩ | ⟨a2, b2⟩ <;>
    first
    | exact absurd (a1.trans a2.symm) h
    | (rw [b1, b2, a1, a2, List.cons_append, List.cons_append, bl_lt (by decide)]; rfl)
    | (rw [b1, b2, a1, a2, List.cons_append, List.cons_append, bl_gt (by decide)]; rfl)
theorem num_step {x y : Nat} {c d : Int} (hx : x < 18446744073709551616) (hy : y < 18446744073709551616) (hlt : c < d ↔ x < y) (hgt : d < c ↔ y < x) (r s : List UInt8) :
    Op.bytesLess (big8 x ++ r) (big8 y ++ s) = if cmpI c d = 0 then Op.bytesLess r s else decide (cmpI c d < 0) := by
  by_cases h1 : x < y
  · rw [cmpI_lt (hlt.2 h1), bl_number hx hy (by omega)]; simp [h1]
  · by_cases h2 : y < x
    · rw [cmpI_gt (hgt.2 h2), bl_number hx hy (by omega)]; simp [h1]
    · obtain rfl : x = y := by omega
      rw [cmpI_eq (fun h => h1 (hlt.1 h)) (fun h => h2 (hgt.1 h)), if_pos rfl, bl_same]
theorem text_step (x y r s : List UInt8) : Op.bytesLess (esc x ++ (0 :: 0 :: r)) (esc y ++ (0 :: 0 :: s)) = if cmpS x y = 0 then Op.bytesLess r s else decide (cmpS x y < 0) := by
  by_cases h : x = y
  · subst h
    have e : cmpS x x = 0 := by unfold cmpS; rw [bl_irrefl, if_neg (by decide), if_pos rfl]
    rw [e, if_pos rfl, bl_same, bl_eq, bl_eq]
  · rw [bl_text x y r s h]
    unfold cmpS
    by_cases hb : Op.bytesLess x y = true
    · rw [if_pos hb, hb]; rfl
    · rw [if_neg hb, if_neg h]
      have : Op.bytesLess x y = false := by simpa using hb
      rw [this]; rfl
/-- one part, and what is behind it -/
theorem bl_part {p q : KPart} (hp : p.ok) (hq : q.ok) (h1 : (pbytes p).2 = 0) (h2 : (pbytes q).2 = 0) (r s : List UInt8) :
    Op.bytesLess ((pbytes p).1 ++ r) ((pbytes q).1 ++ s) = if pcmp p q = 0 then Op.bytesLess r s else decide (pcmp p q < 0) := by
  obtain ⟨_, p1, p2, p3⟩ := hp
  obtain ⟨_, q1, q2, q3⟩ := hq
  have lp := lift_lt p1 p2
  have lq := lift_lt q1 q2
  by_cases h : p.sort = q.sort
  · rcases pbytes_cases h1 with ⟨a1, b1⟩ | ⟨a1, b1⟩ | ⟨a1, b1⟩ | ⟨a1, b1⟩
    · rcases pbytes_cases h2 with ⟨a2, b2⟩ | ⟨a2, b2⟩ | ⟨a2, b2⟩ | ⟨a2, b2⟩ <;> first | (exfalso; omega) | skip
      have e : pcmp p q = cmpI p.n q.n := by unfold pcmp; rw [if_pos h, if_pos a1]
      rw [b1, b2, e, List.cons_append, List.cons_append, bl_eq]
      exact num_step lp lq (by unfold lift; omega) (by unfold lift; omega) r s
    · rcases pbytes_cases h2 with ⟨a2, b2⟩ | ⟨a2, b2⟩ | ⟨a2, b2⟩ | ⟨a2, b2⟩ <;> first | (exfalso; omega) | skip
      have e : pcmp p q = cmpI q.n p.n := by unfold pcmp; rw [if_pos h, if_neg (by omega), if_pos a1]
      rw [b1, b2, e, List.cons_append, List.cons_append, bl_eq]
      exact num_step (by omega) (by omega) (by unfold lift; omega) (by unfold lift; omega) r s
    · rcases pbytes_cases h2 with ⟨a2, b2⟩ | ⟨a2, b2⟩ | ⟨a2, b2⟩ | ⟨a2, b2⟩ <;> first | (exfalso; omega) | skip
      have e : pcmp p q = cmpI p.u q.u := by unfold pcmp; rw [if_pos h, if_neg (by omega), if_neg (by omega), if_pos a1]
      rw [b1, b2, e, List.cons_append, List.cons_append, bl_eq]
      exact num_step p3 q3 (by omega) (by omega) r s
    · rcases pbytes_cases h2 with ⟨a2, b2⟩ | ⟨a2, b2⟩ | ⟨a2, b2⟩ | ⟨a2, b2⟩ <;> first | (exfalso; omega) | skip
      have e : pcmp p q = cmpS p.s.data.toList q.s.data.toList := by unfold pcmp; rw [if_pos h, if_neg (by omega), if_neg (by omega), if_neg (by omega), if_pos a1]
      rw [b1, b2, e, List.cons_append, List.cons_append, bl_eq, List.append_assoc, List.append_assoc]
      exact text_step _ _ r s
  · have e : pcmp p q = cmpI p.sort q.sort := by unfold pcmp; rw [if_neg h]
    rw [bl_head h1 h2 h, e]
    by_cases hl : p.sort < q.sort
    · rw [cmpI_lt (by omega)]; simp [hl]
    · rw [cmpI_gt (by omega)]; simp [hl]
def kbytes (l : List KPart) : List UInt8 := l.flatMap (fun p => (pbytes p).1)
theorem kbytes_ne {p : KPart} (h : (pbytes p).2 = 0) (l : List KPart) : ∃ c r, kbytes (p :: l) = c :: r := by
  unfold kbytes
  rw [List.flatMap_cons]
  rcases pbytes_cases h with ⟨_, b⟩ | ⟨_, b⟩ | ⟨_, b⟩ | ⟨_, b⟩ <;> exact ⟨_, _, by rw [b]; rfl⟩
/-- keys stand in the order of their rows -/
theorem bl_rows : ∀ (a b : List KPart), (∀ p ∈ a, p.ok ∧ (pbytes p).2 = 0) → (∀ p ∈ b, p.ok ∧ (pbytes p).2 = 0) → Op.bytesLess (kbytes a) (kbytes b) = pless a b
  | a, [], _, _ => by rw [pless_nil]; exact bl_nil _
  | [], q :: b, _, hb => by
    obtain ⟨c, r, e⟩ := kbytes_ne (hb q (by simp)).2 b
    rw [e, pless_first]; rfl
  | p :: a, q :: b, ha, hb => by
    have hp := ha p (by simp)
    have hq := hb q (by simp)
    have ih := bl_rows a b (fun x hx => ha x (by simp [hx])) (fun x hx => hb x (by simp [hx]))
    have e := bl_part hp.1 hq.1 hp.2 hq.2 (kbytes a) (kbytes b)
    have e2 : Op.bytesLess (kbytes (p :: a)) (kbytes (q :: b)) = Op.bytesLess ((pbytes p).1 ++ kbytes a) ((pbytes q).1 ++ kbytes b) := rfl
    rw [e2, e, ih]
    by_cases h0 : pcmp p q = 0
    · rw [if_pos h0, pless_on h0]
    · rw [if_neg h0, pless_off h0]
theorem plain_map : ∀ l : List KPart, (∀ p ∈ l, pplain p = p) → l.map pplain = l
  | [], _ => rfl
  | p :: l, h => by rw [List.map_cons, h p (by simp), plain_map l (fun q hq => h q (by simp [hq]))]
/-- a row's key begins those that go on from it, and no others -/
theorem kb_begins : ∀ (a b : List KPart) (t : List UInt8), (∀ p ∈ a, p.ok ∧ (pbytes p).2 = 0 ∧ pplain p = p) → (∀ p ∈ b, p.ok ∧ (pbytes p).2 = 0 ∧ pplain p = p) → kbytes b = kbytes a ++ t → ∃ c, b = a ++ c
  | [], b, _, _, _, _ => ⟨b, rfl⟩
  | p :: a, [], t, ha, _, h => by
    obtain ⟨c, r, e⟩ := kbytes_ne (ha p (by simp)).2.1 a
    rw [e] at h; cases h
  | p :: a, q :: b, t, ha, hb, h => by
    obtain ⟨p1, p2, p3⟩ := ha p (by simp)
    obtain ⟨q1, q2, q3⟩ := hb q (by simp)
    have e1 : kbytes (q :: b) = (pbytes q).1 ++ kbytes b := rfl
    have e2 : kbytes (p :: a) ++ t = (pbytes p).1 ++ (kbytes a ++ t) := by
      show (pbytes p).1 ++ kbytes a ++ t = _
      rw [List.append_assoc]
    rw [e1, e2] at h
    have f1 := pfirst_bytes q1 q2 (kbytes b)
    rw [h, pfirst_bytes p1 p2, p3, q3] at f1
    injection f1 with f1
    injection f1 with f1 f2
    subst f1
    obtain ⟨c, e⟩ := kb_begins a b t (fun x hx => ha x (by simp [hx])) (fun x hx => hb x (by simp [hx])) f2.symm
    exact ⟨c, by rw [e]; rfl⟩
theorem kb_append (a c : List KPart) : kbytes (a ++ c) = kbytes a ++ kbytes c := by unfold kbytes; rw [List.flatMap_append]
theorem kb_equal {a b : List KPart} (ha : ∀ p ∈ a, p.ok ∧ (pbytes p).2 = 0 ∧ pplain p = p) (hb : ∀ p ∈ b, p.ok ∧ (pbytes p).2 = 0 ∧ pplain p = p) (h : kbytes a = kbytes b) : a = b := by
  have e1 : pparts (kbytes a) = some (a.map pplain) := pparts_bytes a (fun p hp => (ha p hp).1) (fun p hp => (ha p hp).2.1)
  have e2 : pparts (kbytes b) = some (b.map pplain) := pparts_bytes b (fun p hp => (hb p hp).1) (fun p hp => (hb p hp).2.1)
  have m1 : a.map pplain = a := plain_map a (fun p hp => (ha p hp).2.2)
  have m2 : b.map pplain = b := plain_map b (fun p hp => (hb p hp).2.2)
  rw [h, e2, m1, m2] at e1
  injection e1 with e1
  exact e1.symm
end Go.Proofs.YtelbhegkaihjhaaDoor
