/-
  A list with its towers' heights and its steps. Conditions: as each theorem states.
-/
import Derived.Test.YtnnjbofkkaonoaaSkT
namespace Go.Proofs.Ytnnjbofkkaonoaa.Sk
open Go.RowKit Go.Shelf
open Go.Proofs.Ytnnjbofkkaonoaa.Rf

def hgt (s : Ls) (k : ByteArray) : Nat := match s.S.find? (fun p => decide (s.K p = k)) with
  | some p => s.H p
  | none => 0
theorem key_inj {s : Ls} (ok : Ok s) {p q : Nat} (hp : p ∈ s.S) (hq : q ∈ s.S) (h : s.K p = s.K q) : p = q := by
  obtain ⟨i, hi, rfl⟩ := List.mem_iff_getElem.1 hp
  obtain ⟨j, hj, rfl⟩ := List.mem_iff_getElem.1 hq
  have h1 := pos_own ok hi
  have h2 := pos_own ok hj
  rw [h, h2] at h1
  subst h1; rfl
theorem hgt_at {s : Ls} (ok : Ok s) {p : Nat} (hp : p ∈ s.S) : hgt s (s.K p) = s.H p := by
  unfold hgt
  cases hf : s.S.find? (fun q => decide (s.K q = s.K p)) with
  | none => exact absurd (List.find?_eq_none.1 hf p hp) (by simp)
  | some q =>
    have hq := List.find?_some hf
    have hm := List.mem_of_find?_eq_some hf
    have e := key_inj ok hm hp (by simpa using hq)
    subst e; rfl
theorem hgt_no {s : Ls} {k : ByteArray} (h : ∀ p ∈ s.S, s.K p ≠ k) : hgt s k = 0 := by
  unfold hgt
  rw [List.find?_eq_none.2 (fun p hp => by simpa using h p hp)]
theorem mem_insS {S : List Nat} {a N p : Nat} : p ∈ insS S a N ↔ p = N ∨ p ∈ S := by
  unfold insS
  rw [List.mem_append, List.mem_cons]
  have : p ∈ S ↔ p ∈ S.take a ∨ p ∈ S.drop a := by rw [← List.mem_append, List.take_append_drop]
  rw [this]
  constructor
  · rintro (h | h | h)
    · exact .inr (.inl h)
    · exact .inl h
    · exact .inr (.inr h)
  · rintro (h | h | h)
    · exact .inr (.inl h)
    · exact .inl h
    · exact .inr (.inr h)
theorem hgt_ins {s : Ls} (ok : Ok s) (k v : ByteArray) {h : Nat} (h1 : 1 ≤ h) (h2 : h ≤ 12) (hno : ∀ p ∈ s.S, s.K p ≠ k) (k' : ByteArray) : hgt (ins s k v h) k' = if k' = k then h else hgt s k' := by
  have ok' := ins_ok ok k v h1 h2 hno
  have hne : ∀ p ∈ s.S, p ≠ s.n + 1 := fun p hp e => by have := (ok.mem p hp).2; omega
  by_cases hk : k' = k
  · rw [if_pos hk, hk]
    have hm : s.n + 1 ∈ (ins s k v h).S := mem_insS.2 (.inl rfl)
    have hK : (ins s k v h).K (s.n + 1) = k := upd_same _ _ _
    have := hgt_at ok' hm
    rw [hK] at this
    rw [this]; exact upd_same _ _ _
  · rw [if_neg hk]
    by_cases hex : ∃ p ∈ s.S, s.K p = k'
    · obtain ⟨p, hp, rfl⟩ := hex
      have hm : p ∈ (ins s k v h).S := mem_insS.2 (.inr hp)
      have hK : (ins s k v h).K p = s.K p := upd_ne _ _ (hne p hp)
      have := hgt_at ok' hm
      rw [hK] at this
      rw [this, hgt_at ok hp]; exact upd_ne _ _ (hne p hp)
    · have hn : ∀ p ∈ s.S, s.K p ≠ k' := fun p hp e => hex ⟨p, hp, e⟩
      rw [hgt_no hn]
      refine hgt_no fun p hp e => ?_
      rcases mem_insS.1 hp with rfl | hp
      · exact hk (e.symm.trans (upd_same _ _ _))
      · exact hn p hp ((upd_ne _ _ (hne p hp)).symm.trans e)
theorem hgt_put (s : Ls) (p : Nat) (v k : ByteArray) : hgt (put s p v) k = hgt s k := rfl
/-- A list with its pairs, its steps, its towers' heights. -/
def LstH (w : World) (l : Nat) (v : Value) (P : List Pr) (n : Nat) (st : Int) (hg : ByteArray → Nat) : Prop := ∃ s bytes, SkAt w l v s bytes st ∧ pairs s = P ∧ s.n = n ∧ ∀ k, hgt s k = hg k
theorem LstH.lst {w : World} {l n : Nat} {v : Value} {P : List Pr} {st : Int} {hg : ByteArray → Nat} (h : LstH w l v P n st hg) : Lst w l v P n := by
  obtain ⟨s, b, h1, h2, h3, _⟩ := h
  exact ⟨s, b, st, h1, h2, h3⟩
theorem LstH.below {w w' : World} {l n : Nat} {v : Value} {P : List Pr} {st : Int} {hg : ByteArray → Nat} (h : LstH w l v P n st hg) (hb : Below w.heap.size w w') : LstH w' l v P n st hg := by
  obtain ⟨s, b, h1, h2, h3, h4⟩ := h
  exact ⟨s, b, h1.below hb, h2, h3, h4⟩
theorem LstH.kept {w w' : World} {l n : Nat} {v : Value} {P : List Pr} {st : Int} {hg : ByteArray → Nat} (h : LstH w l v P n st hg) (hk : ∀ k ∈ feet l v, w'.heap[k]? = w.heap[k]?) : LstH w' l v P n st hg := by
  obtain ⟨s, b, h1, h2, h3, h4⟩ := h
  exact ⟨s, b, h1.kept hk, h2, h3, h4⟩
theorem LstH.lt {w : World} {l n : Nat} {v : Value} {P : List Pr} {st : Int} {hg : ByteArray → Nat} (h : LstH w l v P n st hg) : ∀ k ∈ feet l v, k < w.heap.size := h.lst.lt
def putHg (P : List Pr) (k : ByteArray) (hh : Nat) (hg : ByteArray → Nat) : ByteArray → Nat := fun k' => if hasL P k = true then hg k' else if k' = k then hh else hg k'
def PutH (w : World) (l : Nat) (v : Value) (P : List Pr) (n : Nat) (hg : ByteArray → Nat) (e : Ending) (w' : World) : Prop :=
  e = .returned (.int .i64 0) ∧ ∃ v' n' st', LstH w' l v' P n' st' hg ∧ n' ≤ n + 1 ∧ Moves w (feet l v) w' (feet l v')
theorem putH_any {w : World} {l n : Nat} {v : Value} {P : List Pr} {st : Int} {hg : ByteArray → Nat} (h : LstH w l v P n st hg) (k x : ByteArray) (hk : k.size ≤ 1099511627776) (hx : x.size ≤ 1099511627776) (height : Int) (hn : n < 65536) {hh : Nat} (hhh : min (max height 1) 12 = (hh : Int)) :
    Calls Try.prog 7 #[.pointer (some ⟨l, 0, none⟩), .string k, .string x, .int .i64 height] w (PutH w l v (putL P k x) n (putHg P k hh hg)) := by
  obtain ⟨s, b, h1, rfl, rfl, h4⟩ := h
  cases ht : there s k with
  | true =>
    obtain ⟨hq, _, _⟩ := there_yes h1.ok ht
    refine (put_hit h1 k x hx height ht ⟨hq, rfl⟩).mono ?_
    rintro e w' ⟨he, v', b', st', h2, h3⟩
    refine ⟨he, v', s.n, _, ⟨_, b', h2, put_is h1.ok k ht x ⟨hq, rfl⟩, rfl, fun k' => ?_⟩, by omega, h3⟩
    unfold putHg
    rw [has_is h1.ok, ht, if_pos rfl, hgt_put]; exact h4 k'
  | false =>
    refine (put_miss h1 k x hk hx height (hn := hh) hhh ht hn).mono ?_
    rintro e w' ⟨he, v', b', st', h2, h3⟩
    refine ⟨he, v', s.n + 1, _, ⟨_, b', h2, ins_is h1.ok k ht x _, rfl, fun k' => ?_⟩, by omega, h3⟩
    unfold putHg
    rw [has_is h1.ok, ht, if_neg (by decide), hgt_ins h1.ok k x (by omega) (by omega) (there_no h1.ok ht)]
    split
    · rfl
    · exact h4 k'
def GetH (w : World) (l : Nat) (v : Value) (P : List Pr) (n : Nat) (hg : ByteArray → Nat) (r : ByteArray) (ok : Bool) (e : Ending) (w' : World) : Prop :=
  e = .returned (.tuple #[.string r, .bool ok]) ∧ ∃ st : Nat, st ≤ n + 12 ∧ LstH w' l v P n st hg ∧ Moves w (feet l v) w' (feet l v)
theorem getH_any {w : World} {l n : Nat} {v : Value} {P : List Pr} {st : Int} {hg : ByteArray → Nat} (h : LstH w l v P n st hg) (k : ByteArray) :
    Calls Try.prog 9 #[.pointer (some ⟨l, 0, none⟩), .string k] w (GetH w l v P n hg (getL P k) (hasL P k)) := by
  obtain ⟨s, b, h1, rfl, rfl, h4⟩ := h
  rw [has_is h1.ok]
  cases ht : there s k with
  | true =>
    obtain ⟨hh, _, _⟩ := there_yes h1.ok ht
    rw [get_is_yes h1.ok k ht ⟨hh, rfl⟩]
    exact (get_hit h1 k ht ⟨hh, rfl⟩).mono fun e w' ⟨st', hst, he, h2, h3⟩ => ⟨he, st', hst, ⟨s, b, h2, rfl, rfl, h4⟩, h3⟩
  | false =>
    rw [get_is_no h1.ok k ht]
    exact (get_miss h1 k ht).mono fun e w' ⟨st', hst, he, h2, h3⟩ => ⟨he, st', hst, ⟨s, b, h2, rfl, rfl, h4⟩, h3⟩
theorem stepsH_any {w : World} {l n : Nat} {v : Value} {P : List Pr} {st : Int} {hg : ByteArray → Nat} (h : LstH w l v P n st hg) :
    Calls Try.prog 11 #[.pointer (some ⟨l, 0, none⟩)] w fun e w' => e = .returned (.int .i64 st) ∧ w = w' := by
  obtain ⟨s, b, h1, _⟩ := h
  exact steps_any h1
def RowH (w : World) (l : Nat) (v : Value) (P : List Pr) (n : Nat) (hg : ByteArray → Nat) (q : List Pr) (e : Ending) (w' : World) : Prop :=
  ∃ vv, e = .returned vv ∧ w'.ownsRow w.heap.size 35 2 vv q.length (prRow q) ∧ (∃ st, LstH w' l v P n st hg) ∧ Moves w (feet l v) w' (feet l v)
theorem rowFromH {w : World} {l n : Nat} {v : Value} {P : List Pr} {st0 : Int} {hg : ByteArray → Nat} (h : LstH w l v P n st0 hg) (k : ByteArray) (m : Nat) (hm : m ≤ 9223372036854775807) {mi : Int} (hmi : mi = (m : Nat)) {W : World} (hW : W = (w.alloc (.cells #[.pointer (some ⟨l, 0, none⟩)] 25)).alloc (.cells #[.string k] 9)) :
    Calls Try.prog 19 #[.func (.func 28) #[] #[.pointer (some ⟨w.heap.size, 0, none⟩), .pointer (some ⟨w.heap.size + 1, 0, none⟩)], .int .i64 mi] W (RowH W l v P n hg ((upL P k).take m)) := by
  subst hW hmi
  have hl := upL_len P k
  obtain ⟨hlen, hfew⟩ := h.lst.len
  obtain ⟨s, b, h1, rfl, rfl, h4⟩ := h
  have hC := cap_of h1 k
  have hf := from_is h1.ok k
  refine (callsIn_wide.1 (row_in 3 (by omega) (upL (pairs s) k) (by omega) m hm (enters_of Try.func28 (by kernel_rfl) rfl) (fun W hb => ?_) (ask_of hC))).mono ?_
  · have := from_turns 2 (by omega) (hC.below hb)
    rw [hf] at this
    exact this
  · rintro e w' ⟨vv, he, hr, ho, st', hs⟩
    exact ⟨vv, he, hr, ⟨st', s, b, hs, rfl, rfl, h4⟩, ho, fun k hk => .inl hk⟩
theorem rowDownH {w : World} {l n : Nat} {v : Value} {P : List Pr} {st0 : Int} {hg : ByteArray → Nat} (h : LstH w l v P n st0 hg) (k : ByteArray) (m : Nat) (hm : m ≤ 9223372036854775807) {mi : Int} (hmi : mi = (m : Nat)) {W : World} (hW : W = (w.alloc (.cells #[.pointer (some ⟨l, 0, none⟩)] 25)).alloc (.cells #[.string k] 9)) :
    Calls Try.prog 19 #[.func (.func 29) #[] #[.pointer (some ⟨w.heap.size, 0, none⟩), .pointer (some ⟨w.heap.size + 1, 0, none⟩)], .int .i64 mi] W (RowH W l v P n hg ((dnL P k).take m)) := by
  subst hW hmi
  have hl := dnL_len P k
  obtain ⟨hlen, hfew⟩ := h.lst.len
  obtain ⟨s, b, h1, rfl, rfl, h4⟩ := h
  have hC := cap_of h1 k
  have hf := down_is h1.ok k
  refine (callsIn_wide.1 (row_in 3 (by omega) (dnL (pairs s) k) (by omega) m hm (enters_of Try.func29 (by kernel_rfl) rfl) (fun W hb => ?_) (ask_of hC))).mono ?_
  · have := down_turns 2 (by omega) (hC.below hb)
    rw [hf] at this
    exact this
  · rintro e w' ⟨vv, he, hr, ho, st', hs⟩
    exact ⟨vv, he, hr, ⟨st', s, b, hs, rfl, rfl, h4⟩, ho, fun k hk => .inl hk⟩
end Go.Proofs.Ytnnjbofkkaonoaa.Sk
