/-
  What a key of a market is of: mathematics only. Conditions: as each theorem states.
-/
import Derived.Test.YtelbhegkaihjhaaDoorKyP
import Derived.Test.YtelbhegkaihjhaaDoorKyQ
import Derived.Test.YtelbhegkaihjhaaDoorKmA
namespace Go.Proofs.YtelbhegkaihjhaaDoor
open Go.RowKit
open Vi

/-! what is parsed would be made so -/
theorem unesc_back : ∀ (n : Nat) (l : List UInt8), l.length ≤ n → ∀ s r, unesc l = some (s, r) → l = esc s ++ (0 :: 0 :: r)
  | 0, l, hl, s, r, h => by
    have : l = [] := List.eq_nil_of_length_eq_zero (by omega)
    subst this; unfold unesc at h; cases h
  | n + 1, [], _, s, r, h => by unfold unesc at h; cases h
  | n + 1, c :: l, hl, s, r, h => by
    by_cases hc : c = 0
    · subst hc
      match l, h with
      | [], h => rw [unesc_stop] at h; cases h
      | d :: r2, h =>
        by_cases h0 : d = 0
        · subst h0; rw [unesc_end] at h; cases h; rfl
        · by_cases h255 : d = 255
          · subst h255
            rw [unesc_on] at h
            cases hu : unesc r2 with
            | none => rw [hu] at h; cases h
            | some x =>
              obtain ⟨s2, r3⟩ := x
              rw [hu] at h
              simp only [Option.map_some, Option.some.injEq, Prod.mk.injEq] at h
              obtain ⟨rfl, rfl⟩ := h
              have ih := unesc_back n r2 (by simp at hl; omega) s2 r3 hu
              rw [esc_cons0, ih]; rfl
          · rw [unesc_bad h0 h255] at h; cases h
    · rw [unesc_other hc] at h
      cases hu : unesc l with
      | none => rw [hu] at h; cases h
      | some x =>
        obtain ⟨s2, r3⟩ := x
        rw [hu] at h
        simp only [Option.map_some, Option.some.injEq, Prod.mk.injEq] at h
        obtain ⟨rfl, rfl⟩ := h
        have ih := unesc_back n l (by simp at hl; omega) s2 r3 hu
        rw [esc_cons hc, ih]; rfl
theorem big8_be8 {l : List UInt8} (h : 8 ≤ l.length) : big8 (be8 l) = l.take 8 := by
  have hl : (l.take 8).length = 8 := by rw [List.length_take]; omega
  have e : little 8 (big (l.take 8)) = l.take 8 := by
    have := little_big (l.take 8)
    rwa [hl] at this
  unfold big8 be8
  rw [little_rev8, e, List.reverse_reverse]
theorem kok_up {n : Int} (h1 : -9223372036854775808 ≤ n) (h2 : n ≤ 9223372036854775807) : (kUp n).ok := ⟨by show (105 : Nat) < 256; decide, h1, h2, by show (0 : Nat) < _; decide⟩
theorem kok_down {n : Int} (h1 : -9223372036854775808 ≤ n) (h2 : n ≤ 9223372036854775807) : (kDown n).ok := ⟨by show (100 : Nat) < 256; decide, h1, h2, by show (0 : Nat) < _; decide⟩
theorem kok_count {u : Nat} (h : u < 18446744073709551616) : (kCount u).ok := ⟨by show (117 : Nat) < 256; decide, by show (-9223372036854775808 : Int) ≤ 0; decide, by show (0 : Int) ≤ 9223372036854775807; decide, h⟩
theorem kok_text (s : ByteArray) : (kText s).ok := ⟨by show (116 : Nat) < 256; decide, by show (-9223372036854775808 : Int) ≤ 0; decide, by show (0 : Int) ≤ 9223372036854775807; decide, by show (0 : Nat) < _; decide⟩
theorem pb_up (n : Int) : pbytes (kUp n) = (105 :: big8 (lift n), 0) := pbytes_i rfl
theorem pb_down (n : Int) : pbytes (kDown n) = (100 :: big8 (18446744073709551615 - lift n), 0) := pbytes_d rfl
theorem pb_count (u : Nat) : pbytes (kCount u) = (117 :: big8 u, 0) := pbytes_u rfl
theorem pb_text {s : ByteArray} (h : s.size ≤ 200) : pbytes (kText s) = (116 :: (esc s.data.toList ++ [0, 0]), 0) := pbytes_t rfl (by show ¬ 200 < s.size; omega)
/-- the first part that is read would be made of these bytes -/
theorem pfirst_back {l : List UInt8} {p : KPart} {r : List UInt8} (hl : l.length ≤ 200) (h : pfirst l = some (p, r)) :
    l = (pbytes p).1 ++ r ∧ (pbytes p).2 = 0 ∧ p.ok ∧ pplain p = p ∧ p.s.size ≤ 200 := by
  match l, h with
  | [], h => cases h
  | c :: l, h =>
    by_cases c1 : c = 116
    · subst c1
      rw [pfirst_t] at h
      cases hu : unesc l with
      | none => rw [hu] at h; cases h
      | some x =>
        obtain ⟨s, r2⟩ := x
        rw [hu] at h
        simp only [Option.map_some, Option.some.injEq, Prod.mk.injEq] at h
        obtain ⟨rfl, rfl⟩ := h
        have e := unesc_back l.length l (Nat.le_refl _) s r2 hu
        have hs : s.length ≤ 200 := by
          have h1 := congrArg List.length e
          rw [List.length_append] at h1
          have h2 := esc_le s
          simp at hl h1; omega
        have hz : (bs s).size ≤ 200 := by rw [bs_size]; exact hs
        refine ⟨?_, ?_, kok_text _, rfl, hz⟩
        · rw [pb_text hz, e, bs_toList]; simp
        · rw [pb_text hz]
    · by_cases h8 : l.length < 8
      · rw [pfirst_short c1 h8] at h; cases h
      · have hb := be8_lt l
        have ht : l = big8 (be8 l) ++ l.drop 8 := by rw [big8_be8 (by omega), List.take_append_drop]
        by_cases c2 : c = 105
        · subst c2
          rw [pfirst_i h8] at h
          injection h with h; injection h with h1 h2
          subst h1 h2
          have hll : lift ((be8 l : Int) - 9223372036854775808) = be8 l := by unfold lift; omega
          refine ⟨?_, by rw [pb_up], kok_up (by omega) (by omega), rfl, by show (⟨#[]⟩ : ByteArray).size ≤ 200; decide⟩
          rw [pb_up, hll]; show 105 :: l = 105 :: (big8 (be8 l) ++ l.drop 8); rw [← ht]
        · by_cases c3 : c = 100
          · subst c3
            rw [pfirst_d h8] at h
            injection h with h; injection h with h1 h2
            subst h1 h2
            have hll : 18446744073709551615 - lift (9223372036854775807 - (be8 l : Int)) = be8 l := by unfold lift; omega
            refine ⟨?_, by rw [pb_down], kok_down (by omega) (by omega), rfl, by show (⟨#[]⟩ : ByteArray).size ≤ 200; decide⟩
            rw [pb_down, hll]; show 100 :: l = 100 :: (big8 (be8 l) ++ l.drop 8); rw [← ht]
          · by_cases c4 : c = 117
            · subst c4
              rw [pfirst_u h8] at h
              injection h with h; injection h with h1 h2
              subst h1 h2
              refine ⟨?_, by rw [pb_count], kok_count hb, rfl, by show (⟨#[]⟩ : ByteArray).size ≤ 200; decide⟩
              rw [pb_count]; show 117 :: l = 117 :: (big8 (be8 l) ++ l.drop 8); rw [← ht]
            · rw [pfirst_n c1 c2 c3 c4] at h; cases h
/-- what a part that was read is like -/
def Read (p : KPart) : Prop := (pbytes p).2 = 0 ∧ p.ok ∧ pplain p = p ∧ p.s.size ≤ 200
theorem pparts_back : ∀ (n : Nat) (l : List UInt8) (a : List KPart), l.length ≤ n → l.length ≤ 200 → pparts l = some a → l = kbytes a ∧ ∀ p ∈ a, Read p
  | n, [], a, _, _, h => by
    rw [pparts_nil] at h; injection h with h; subst h
    exact ⟨rfl, fun p hp => by cases hp⟩
  | 0, c :: l, a, hn, _, h => by simp at hn
  | n + 1, c :: l, a, hn, h2, h => by
    cases hq : pfirst (c :: l) with
    | none => rw [pparts_none (by simp) hq] at h; cases h
    | some x =>
      obtain ⟨p, r⟩ := x
      have hlen := pfirst_len hq
      obtain ⟨e, b1, b2, b3, b4⟩ := pfirst_back h2 hq
      rw [pparts_some hq] at h
      cases hr : pparts r with
      | none => rw [hr] at h; cases h
      | some a2 =>
        rw [hr] at h
        simp only [Option.map_some, Option.some.injEq] at h
        subst h
        obtain ⟨e2, ha⟩ := pparts_back n r a2 (by omega) (by omega) hr
        refine ⟨?_, fun q hq2 => ?_⟩
        · rw [e, e2]; rfl
        · rcases List.mem_cons.1 hq2 with rfl | hq2
          · exact ⟨b1, b2, b3, b4⟩
          · exact ha q hq2
/-- a row whose bytes are few is made -/
theorem mkGo_all : ∀ (l : List KPart) (k : List UInt8), (∀ p ∈ l, (pbytes p).2 = 0) → k.length + (kbytes l).length ≤ 200 → mkGo k l = (k ++ kbytes l, 0)
  | [], k, _, _ => by rw [mkGo]; unfold kbytes; simp
  | p :: l, k, h, hl => by
    have e : kbytes (p :: l) = (pbytes p).1 ++ kbytes l := rfl
    rw [e, List.length_append] at hl
    rw [mkGo_on (h p (by simp)) (by omega), mkGo_all l _ (fun q hq => h q (by simp [hq])) (by rw [List.length_append]; omega), e, List.append_assoc]

theorem part_apart {p q : KPart} (h : ¬ pneq p q = false) : ¬ p = q := fun e => h (pneq_false e)
theorem part_alike {p q : KPart} (h : pneq p q = false) : p = q := Classical.byContradiction fun e => by rw [pneq_true e] at h; cases h
instance : DecidableEq KPart := fun p q => if h : pneq p q = false then isTrue (part_alike h) else isFalse (part_apart h)

/-! things -/
structure Th where
  sort : ByteArray
  acct : Nat
  id : Nat
  kind : Int
  price : Int
  rank : Nat
  time : Nat
  name : ByteArray
def Th.zero (s : ByteArray) : Th := ⟨s, 0, 0, 0, 0, 0, 0, ⟨#[]⟩⟩
def Th.cells (t : Th) : Array Value := #[.string t.sort, .int .u64 t.acct, .int .u64 t.id, .int .i64 t.kind, .int .i64 t.price, .int .u64 t.rank, .int .u64 t.time, .string t.name]
def Th.ok (t : Th) : Prop := t.acct < 18446744073709551616 ∧ t.id < 18446744073709551616 ∧ (-9223372036854775808 ≤ t.kind ∧ t.kind ≤ 9223372036854775807) ∧ (-9223372036854775808 ≤ t.price ∧ t.price ≤ 9223372036854775807) ∧ t.rank < 18446744073709551616 ∧ t.time < 18446744073709551616
/-- what a key of a sort has behind it -/
def formK (s : ByteArray) : List UInt8 :=
  if s = bs [97] then [97, 107] else if s = bs [111] then [105] else if s = bs [98] then [107, 112, 114, 105] else if s = bs [101] then [116, 105] else if s = bs [110] then [110] else []
def partK (c : UInt8) (t : Th) : KPart :=
  if c = 97 then kCount t.acct else if c = 107 then kUp t.kind else if c = 112 then (if t.kind = 1 then kDown t.price else kUp t.price) else if c = 114 then kCount t.rank
  else if c = 105 then kCount t.id else if c = 116 then kCount t.time else kText t.name
def i32 (n : Int) : Int := wrap64 (wrap32 n)
def takeK (c : UInt8) (t : Th) (p : KPart) : Th :=
  if c = 97 then { t with acct := p.u } else if c = 107 then { t with kind := i32 p.n } else if c = 112 then { t with price := p.n } else if c = 114 then { t with rank := p.u }
  else if c = 105 then { t with id := p.u } else if c = 116 then { t with time := p.u } else if c = 110 then { t with name := p.s } else t
def rowK (t : Th) : List KPart := kText t.sort :: (formK t.sort).map (partK · t)
def goK : List UInt8 → List KPart → Th → Option Th
  | [], _, x => some x
  | _ :: _, [], _ => none
  | c :: f, p :: l, x => if partK c (takeK c x p) = p then goK f l (takeK c x p) else none
def rowParse : List KPart → Option Th
  | [] => none
  | p :: l => if formK p.s = [] ∨ l.length ≠ (formK p.s).length then none else goK (formK p.s) l (Th.zero p.s)
/-- the program's Parse -/
def parseK (K : List UInt8) : Option Th := if 200 < K.length then none else match pparts K with
  | none => none
  | some a => rowParse a
/-- the document's, by the parts -/
def docA (s : ByteArray) (p1 : KPart) (l : List KPart) : Th := match l with
  | [p2] => ⟨s, p1.u, 0, p2.n, 0, 0, 0, ⟨#[]⟩⟩
  | _ => Th.zero s
def docB (s : ByteArray) (p1 : KPart) (l : List KPart) : Th := match l with
  | [p2, p3, p4] => ⟨s, 0, p4.u, p1.n, p2.n, p3.u, 0, ⟨#[]⟩⟩
  | _ => Th.zero s
def docE (s : ByteArray) (p1 : KPart) (l : List KPart) : Th := match l with
  | [p2] => ⟨s, 0, p2.u, 0, 0, 0, p1.u, ⟨#[]⟩⟩
  | _ => Th.zero s
def docTail (s : ByteArray) (p1 : KPart) (l : List KPart) : Option Th :=
  if s = bs [97] then some (docA s p1 l) else if s = bs [111] then some ⟨s, 0, p1.u, 0, 0, 0, 0, ⟨#[]⟩⟩ else if s = bs [98] then some (docB s p1 l)
  else if s = bs [101] then some (docE s p1 l) else if s = bs [110] then some ⟨s, 0, 0, 0, 0, 0, 0, p1.s⟩ else none
def docRow : List KPart → Option Th
  | p0 :: p1 :: l => if p0.sort = 116 then docTail p0.s p1 l else none
  | _ => none
def fits (n : Int) : Prop := -2147483648 ≤ n ∧ n ≤ 2147483647
instance (n : Int) : Decidable (fits n) := by unfold fits; exact inferInstance
def docParse (K : List UInt8) : Option Th := if 200 < K.length then none else match pparts K with
  | none => none
  | some a => match docRow a with
    | none => none
    | some t => if fits t.kind ∧ mkGo [] (rowK t) = (K, 0) then some t else none
theorem i32_fits {n : Int} (h : fits n) : i32 n = n := by
  unfold fits at h; unfold i32 wrap64 wrap32; omega
theorem i32_in (n : Int) : fits (i32 n) := by
  unfold fits i32 wrap64 wrap32; omega
end Go.Proofs.YtelbhegkaihjhaaDoor
