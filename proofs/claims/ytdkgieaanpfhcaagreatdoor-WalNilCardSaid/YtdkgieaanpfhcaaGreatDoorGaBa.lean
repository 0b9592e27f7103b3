/-
  Several texts in one: BaMath, BaA, BaB, BaC, BaD, BaE. Conditions: as each theorem states.
-/
import Derived.Test.YtdkgieaanpfhcaaGreatDoorBaR
import Derived.Test.YtdkgieaanpfhcaaGreatDoorBuB
import Derived.Deep.AppendLies
import Derived.Deep.RegionLaw
namespace Go.Proofs.YtdkgieaanpfhcaaGreatDoor.Ba
open Go.Proofs.YtdkgieaanpfhcaaGreatDoor
open Vi

structure Chg where
  kind : Int
  key : ByteArray
  value : ByteArray
instance : Inhabited Chg := ⟨⟨0, ⟨#[]⟩, ⟨#[]⟩⟩⟩
def chk1 (c : Chg) : Int :=
  if ¬ (c.kind = 1 ∨ c.kind = 2) then 11 else if c.key.size = 0 ∨ 200 < c.key.size then 19 else if 4096 < c.value.size ∨ (c.kind = 2 ∧ c.value.size ≠ 0) then 5 else 0
theorem chk1_ok {c : Chg} : chk1 c = 0 ↔ (c.kind = 1 ∨ c.kind = 2) ∧ 0 < c.key.size ∧ c.key.size ≤ 200 ∧ c.value.size ≤ 4096 ∧ (c.kind ≠ 2 ∨ c.value.size = 0) := by
  unfold chk1; split
  · constructor
    · intro h; simp at h
    · intro h; omega
  · split
    · constructor
      · intro h; simp at h
      · intro h; omega
    · split
      · constructor
        · intro h; simp at h
        · intro h; omega
      · constructor
        · intro h; omega
        · intro h; rfl
theorem eta3 {α : Type} {p : α × Nat × Int} (h : p.2.2 = 0) : p = (p.1, p.2.1, 0) := by
  obtain ⟨a, b, c⟩ := p
  simp at h ⊢; exact h
def chkGo : List Chg → Int
  | [] => 0
  | c :: l => if chk1 c = 0 then chkGo l else chk1 c
theorem chkGo_ok {l : List Chg} : chkGo l = 0 ↔ ∀ c ∈ l, chk1 c = 0 := by
  induction l with
  | nil => simp [chkGo]
  | cons c l ih =>
    unfold chkGo
    split
    · rename_i h; simp [h, ih]
    · rename_i h; simp [h]
def chkB (seq : Nat) (l : List Chg) : Int :=
  if 2000 < l.length then 6 else if chkGo l = 0 then (if 72057594037927935 < seq ∨ 72057594037927935 - seq + 1 < l.length then 8 else 0) else chkGo l
theorem chkB_ok {seq : Nat} {l : List Chg} : chkB seq l = 0 ↔ l.length ≤ 2000 ∧ (∀ c ∈ l, chk1 c = 0) ∧ seq ≤ 72057594037927935 ∧ l.length ≤ 72057594037927935 - seq + 1 := by
  unfold chkB; split
  · simp; omega
  · split
    · rename_i h; rw [chkGo_ok] at h
      split
      · constructor
        · intro h'; simp at h'
        · rintro ⟨_, _, h1, h2⟩; omega
      · exact ⟨fun _ => ⟨by omega, h, by omega, by omega⟩, fun _ => rfl⟩
    · rename_i h
      constructor
      · intro h'; exact absurd h' h
      · rintro ⟨_, h1, _⟩; exact absurd (chkGo_ok.2 h1) h
def vtx (s : ByteArray) : List UInt8 := vnum s.size ++ s.data.toList
def cb (c : Chg) : List UInt8 := UInt8.ofNat c.kind.toNat :: (vtx c.key ++ (if c.kind = 1 then vtx c.value else []))
def bb (seq : Nat) (l : List Chg) : List UInt8 := little 8 seq ++ (vnum l.length ++ l.flatMap cb)
theorem vtx_len {s : ByteArray} (h : s.size ≤ 1000000) : (vtx s).length ≤ s.size + 10 := by
  unfold vtx; rw [List.length_append, size_len]; have := vnum_len10 (n := s.size) (by omega); omega
theorem cb_len {c : Chg} (h : chk1 c = 0) : (cb c).length ≤ 4317 := by
  obtain ⟨_, _, h1, h2, _⟩ := chk1_ok.1 h
  have a := vtx_len (s := c.key) (by omega)
  have b := vtx_len (s := c.value) (by omega)
  unfold cb
  rw [List.length_cons, List.length_append]
  split <;> simp <;> omega
theorem flat_len : ∀ {l : List Chg}, (∀ c ∈ l, chk1 c = 0) → (l.flatMap cb).length ≤ 4317 * l.length
  | [], _ => by simp
  | c :: l, h => by
    have h1 := cb_len (h c (by simp))
    have h2 := flat_len (l := l) fun x hx => h x (List.mem_cons_of_mem _ hx)
    rw [List.flatMap_cons, List.length_append, List.length_cons]; omega
theorem bb_len {seq : Nat} {l : List Chg} (h : ∀ c ∈ l, chk1 c = 0) (hl : l.length ≤ 2000) : (bb seq l).length ≤ 18 + 4317 * l.length := by
  have h1 := flat_len h
  have h2 := vnum_len10 (n := l.length) (by omega)
  unfold bb; rw [List.length_append, List.length_append, little_len]; omega
/-! what bytes are -/
def rdC (L : List UInt8) (at_ : Nat) (err : Int) : Chg × Nat × Int :=
  match (dTake L at_ err 1).1 with
  | [] => (⟨0, ⟨#[]⟩, ⟨#[]⟩⟩, (dTake L at_ err 1).2)
  | c :: _ =>
    let e1 := if c.toNat = 1 ∨ c.toNat = 2 then (dTake L at_ err 1).2 else dFail (dTake L at_ err 1).2.1 (dTake L at_ err 1).2.2 11
    let t := dText L e1.1 e1.2 200
    if c.toNat = 1 then (⟨1, bs t.1, bs (dText L t.2.1 t.2.2 4096).1⟩, (dText L t.2.1 t.2.2 4096).2) else (⟨c.toNat, bs t.1, ⟨#[]⟩⟩, t.2)
def rdL (L : List UInt8) : Nat → Nat → Int → List Chg → List Chg × Nat × Int
  | 0, at_, err, acc => (acc, at_, err)
  | n + 1, at_, err, acc => if err = 0 then rdL L n (rdC L at_ err).2.1 (rdC L at_ err).2.2 (acc ++ [(rdC L at_ err).1]) else (acc, at_, err)
theorem rdL_bad {L : List UInt8} {n at_ : Nat} {err : Int} {acc : List Chg} (h : ¬ err = 0) : rdL L n at_ err acc = (acc, at_, err) := by
  cases n with
  | zero => rfl
  | succ n => rw [rdL, if_neg h]
theorem rdL_on {L : List UInt8} {n at_ : Nat} {acc : List Chg} : rdL L (n + 1) at_ 0 acc = rdL L n (rdC L at_ 0).2.1 (rdC L at_ 0).2.2 (acc ++ [(rdC L at_ 0).1]) := by rw [rdL, if_pos rfl]
/-- where the reader is ahead of the changes -/
def pSeq (L : List UInt8) : Nat := big (dTake L 0 0 8).1
def pNum (L : List UInt8) : Nat × Nat × Int := dNum L (dTake L 0 0 8).2.1 (dTake L 0 0 8).2.2
def pAt (L : List UInt8) : Nat × Int := if 2000 < (pNum L).1 then dFail (pNum L).2.1 (pNum L).2.2 6 else (pNum L).2
def pRows (L : List UInt8) : List Chg × Nat × Int := rdL L (pNum L).1 (pAt L).1 (pAt L).2 []
def pErr (L : List UInt8) : Int := dEnd L.length (pRows L).2.1 (pRows L).2.2
def parse (L : List UInt8) : List Chg × Nat × Int :=
  if pErr L = 0 then (if chkB (pSeq L) (pRows L).1 = 0 then ((pRows L).1, pSeq L, 0) else ([], 0, chkB (pSeq L) (pRows L).1)) else ([], 0, pErr L)
/-! places in the middle -/
theorem drop_mid (A C : List UInt8) : (A ++ C).drop A.length = C := by simp
theorem dNum_mid (A C : List UInt8) (n : Nat) (h : n < 18446744073709551616) : dNum (A ++ (vnum n ++ C)) A.length 0 = (n, A.length + (vnum n).length, 0) := by
  rw [dNum_ok, drop_mid, rnum_vnum h]; rfl
theorem dTake_mid (A M C : List UInt8) : dTake (A ++ (M ++ C)) A.length 0 (M.length : Int) = (M, A.length + M.length, 0) := by
  rw [dTake_ok (by omega) (by simp; omega), drop_mid]; simp
theorem dText_mid (A M C : List UInt8) (most : Int) (hm : (M.length : Int) ≤ most) (h : M.length < 18446744073709551616) : dText (A ++ ((vnum M.length ++ M) ++ C)) A.length 0 most = (M, A.length + (vnum M.length ++ M).length, 0) := by
  rw [dText_eq, List.append_assoc, dNum_mid A (M ++ C) M.length h]
  rw [if_neg (by show ¬ max most 0 < (M.length : Int); omega)]
  have := dTake_mid (A ++ vnum M.length) M C
  rw [List.length_append, List.append_assoc] at this
  rw [this]; simp [Nat.add_assoc]
theorem dText_vtx (A C : List UInt8) (s : ByteArray) (most : Int) (hm : (s.size : Int) ≤ most) (h : s.size ≤ 1000000) : dText (A ++ (vtx s ++ C)) A.length 0 most = (s.data.toList, A.length + (vtx s).length, 0) := by
  have := dText_mid A s.data.toList C most (by rw [size_len]; exact hm) (by rw [size_len]; omega)
  rw [size_len] at this
  exact this
theorem empty_of {s : ByteArray} (h : s.size = 0) : s = ⟨#[]⟩ := by
  cases s with
  | mk d =>
    congr
    exact Array.eq_empty_of_size_eq_zero h
theorem rdC_mid (A C : List UInt8) (c : Chg) (h : chk1 c = 0) : rdC (A ++ (cb c ++ C)) A.length 0 = (c, A.length + (cb c).length, 0) := by
  obtain ⟨hk, _, h1, h2, h3⟩ := chk1_ok.1 h
  obtain ⟨k, key, value⟩ := c
  simp only at hk h1 h2 h3
  have ht : dTake (A ++ (cb ⟨k, key, value⟩ ++ C)) A.length 0 1 = ([UInt8.ofNat k.toNat], A.length + 1, 0) := by
    have := dTake_mid A [UInt8.ofNat k.toNat] (vtx key ++ (if k = 1 then vtx value else []) ++ C)
    simpa [cb] using this
  have hkk : (UInt8.ofNat k.toNat).toNat = k.toNat := toNat_of (by omega)
  have e1 : A ++ (cb ⟨k, key, value⟩ ++ C) = (A ++ [UInt8.ofNat k.toNat]) ++ (vtx key ++ ((if k = 1 then vtx value else []) ++ C)) := by simp [cb]
  have hx := dText_vtx (A ++ [UInt8.ofNat k.toNat]) ((if k = 1 then vtx value else []) ++ C) key 200 (by omega) (by omega)
  rw [List.length_append] at hx
  unfold rdC
  rw [ht]
  simp only [hkk]
  rw [if_pos (show k.toNat = 1 ∨ k.toNat = 2 by omega)]
  simp only [e1]
  rw [show A.length + 1 = A.length + [UInt8.ofNat k.toNat].length from rfl, hx]
  by_cases hk1 : k = 1
  · subst hk1
    simp only [if_true]
    rw [if_pos (by rfl)]
    have hy := dText_vtx ((A ++ [UInt8.ofNat (Int.toNat 1)]) ++ vtx key) C value 4096 (by omega) (by omega)
    rw [List.length_append, List.length_append, List.append_assoc (A ++ [UInt8.ofNat (Int.toNat 1)])] at hy
    rw [hy, bs_of, bs_of]
    simp [cb, Nat.add_assoc, Nat.add_comm, Nat.add_left_comm]
  · rw [if_neg (by omega), bs_of]
    have := empty_of (s := value) (by omega)
    subst this
    have e : ((k.toNat : Nat) : Int) = k := by omega
    rw [e]
    simp [cb, hk1, Nat.add_assoc, Nat.add_comm]
theorem rdL_mid (C : List UInt8) : ∀ (l : List Chg) (A : List UInt8) (acc : List Chg), (∀ c ∈ l, chk1 c = 0) → rdL (A ++ (l.flatMap cb ++ C)) l.length A.length 0 acc = (acc ++ l, A.length + (l.flatMap cb).length, 0)
  | [], A, acc, _ => by simp [rdL]
  | c :: l, A, acc, h => by
    have h1 := rdC_mid A (l.flatMap cb ++ C) c (h c (by simp))
    have h2 := rdL_mid C l (A ++ cb c) (acc ++ [c]) fun x hx => h x (List.mem_cons_of_mem _ hx)
    rw [List.length_cons, rdL_on, List.flatMap_cons, List.append_assoc (cb c), h1]
    simp only
    rw [List.length_append, List.append_assoc A] at h2
    rw [h2]
    simp [Nat.add_assoc]
theorem parse_bb {seq : Nat} {l : List Chg} (h : chkB seq l = 0) : parse (bb seq l) = (l, seq, 0) := by
  obtain ⟨h1, h2, h3, h4⟩ := chkB_ok.1 h
  have hw : dTake (bb seq l) 0 0 8 = (little 8 seq, 8, 0) := by
    have := dTake_mid [] (little 8 seq) (vnum l.length ++ l.flatMap cb)
    rw [little_len] at this
    simpa [bb] using this
  have hs : pSeq (bb seq l) = seq := by unfold pSeq; rw [hw]; exact big_little 8 seq (by omega)
  have hn : pNum (bb seq l) = (l.length, 8 + (vnum l.length).length, 0) := by
    unfold pNum; rw [hw]
    have := dNum_mid (little 8 seq) (l.flatMap cb) l.length (by omega)
    rw [little_len] at this
    exact this
  have ha : pAt (bb seq l) = (8 + (vnum l.length).length, 0) := by unfold pAt; rw [hn, if_neg (by simp; omega)]
  have hr : pRows (bb seq l) = (l, (bb seq l).length, 0) := by
    unfold pRows; rw [hn, ha]
    have := rdL_mid [] l (little 8 seq ++ vnum l.length) [] h2
    simp only [List.append_nil, List.nil_append, List.length_append, little_len, List.append_assoc] at this
    unfold bb
    rw [this]
    simp [little_len, Nat.add_assoc]
  have he : pErr (bb seq l) = 0 := by unfold pErr; rw [hr]; exact dEnd_ok (by simp)
  unfold parse
  rw [if_pos he, hs, hr, if_pos h]
/-! what is read would be written so -/
theorem dTake_back {L x : List UInt8} {at_ at2 : Nat} {n : Nat} (h : dTake L at_ 0 n = (x, at2, 0)) (ha : at_ ≤ L.length) : L.take at2 = L.take at_ ++ x ∧ x.length = n ∧ at2 ≤ L.length := by
  by_cases hc : (n : Int) ≤ (L.length : Int) - at_
  · rw [dTake_ok (by omega) hc] at h
    injection h with e1 e2
    injection e2 with e2 _
    subst e1 e2
    refine ⟨by rw [List.take_add], ?_, by omega⟩
    simp; omega
  · rw [dTake_short (.inr (by omega))] at h
    simp at h
theorem dNum_back {L : List UInt8} {at_ at2 : Nat} {n : Nat} (h : dNum L at_ 0 = (n, at2, 0)) : L.take at2 = L.take at_ ++ vnum n := by
  rw [dNum_ok] at h
  injection h with e1 e2
  injection e2 with e2 e3
  have e3 : (rnum (L.drop at_)).2.2 = 0 := by omega
  have := vnum_rnum (l := L.drop at_) (a := n) (k := (rnum (L.drop at_)).2.1) (by rw [← e1, ← e3])
  rw [this, ← e2, List.take_add]
theorem dText_bad {L : List UInt8} {at_ : Nat} {err most : Int} (h : err ≠ 0) : dText L at_ err most = ([], at_, err) := by
  rw [dText_eq, dNum_bad h, if_neg (by simp; omega), dTake_bad h]
theorem dText_back {L x : List UInt8} {at_ at2 : Nat} {most : Int} (h : dText L at_ 0 most = (x, at2, 0)) (ha : at_ ≤ L.length) : L.take at2 = L.take at_ ++ (vnum x.length ++ x) ∧ at2 ≤ L.length := by
  rw [dText_eq] at h
  have h2 := dNum_at (l := L) (at_ := at_) (err := 0) ha
  have h3 := dNum_back (L := L) (at_ := at_) (n := (dNum L at_ 0).1) (at2 := (dNum L at_ 0).2.1)
  generalize hr : dNum L at_ 0 = r at h h2 h3
  obtain ⟨n, a, e⟩ := r
  simp only at h h2 h3
  split at h
  · injection h with h4 h5
    by_cases he : e = 0
    · rw [he, dFail_ok] at h5; simp at h5
    · rw [dFail_bad he] at h5; simp at h5; exact absurd h5.2 he
  · by_cases he : e = 0
    · subst he
      obtain ⟨b1, b2, b3⟩ := dTake_back h h2
      rw [b1, h3 rfl, b2, List.append_assoc]
      exact ⟨rfl, b3⟩
    · rw [dTake_bad he] at h; simp at h; exact absurd h.2.2 he
theorem rdC_err {L : List UInt8} {at_ : Nat} {c : Chg} {at2 : Nat} (h : rdC L at_ 0 = (c, at2, 0)) (ha : at_ ≤ L.length) : L.take at2 = L.take at_ ++ cb c ∧ at2 ≤ L.length := by
  unfold rdC at h
  have hb := dTake_back (L := L) (at_ := at_) (n := 1) (x := (dTake L at_ 0 1).1) (at2 := (dTake L at_ 0 1).2.1)
  have hd : (dTake L at_ 0 1).1 = [] → (dTake L at_ 0 1).2.2 ≠ 0 := by
    intro h1 h2
    by_cases hc : (1 : Int) ≤ (L.length : Int) - at_
    · rw [dTake_ok (by omega) hc] at h1; simp at h1; omega
    · rw [dTake_short (.inr (by omega))] at h2; simp at h2
  generalize hr : dTake L at_ 0 1 = r at h hb hd
  obtain ⟨x, a, e⟩ := r
  simp only at h hb hd
  match x, h, hb, hd with
  | [], h, _, hd => simp at h; exact absurd h.2.2 (hd rfl)
  | k :: y, h, hb, _ =>
    simp only at h
    by_cases hk : k.toNat = 1 ∨ k.toNat = 2
    · rw [if_pos hk] at h
      by_cases he : e = 0
      · subst he
        have hb := hb (by simp) ha
        obtain ⟨b1, b2, b3⟩ := hb
        have hy : y = [] := by simpa using b2
        subst hy
        have ht := dText_back (L := L) (at_ := a) (most := 200) (x := (dText L a 0 200).1) (at2 := (dText L a 0 200).2.1)
        generalize hq : dText L a 0 200 = q at h ht
        obtain ⟨key, a2, e2⟩ := q
        simp only at h ht
        by_cases hk1 : k.toNat = 1
        · rw [if_pos hk1] at h
          by_cases he2 : e2 = 0
          · subst he2
            obtain ⟨t1, t2⟩ := ht rfl b3
            have hv := dText_back (L := L) (at_ := a2) (most := 4096) (x := (dText L a2 0 4096).1) (at2 := (dText L a2 0 4096).2.1)
            generalize hz : dText L a2 0 4096 = z at h hv
            obtain ⟨val, a3, e3⟩ := z
            simp only at h hv
            injection h with h1 h2
            injection h2 with h2 h3
            subst h1 h2 h3
            obtain ⟨v1, v2⟩ := hv rfl t2
            refine ⟨?_, v2⟩
            rw [v1, t1, b1]
            have e : UInt8.ofNat (Int.toNat 1) = k := by
              have e1 : UInt8.ofNat k.toNat = k := UInt8.ofNat_toNat
              rw [hk1] at e1; exact e1
            simp [cb, vtx, bs_size, bs_toList, ← e]
          · rw [dText_bad he2] at h
            simp at h; exact absurd h.2.2 he2
        · rw [if_neg hk1] at h
          injection h with h1 h2
          injection h2 with h2 h3
          subst h1 h2 h3
          obtain ⟨t1, t2⟩ := ht rfl b3
          refine ⟨?_, t2⟩
          rw [t1, b1]
          have e : ¬ ((k.toNat : Int) = 1) := by omega
          simp only [cb, if_neg e]
          simp [vtx, bs_size, bs_toList]
      · rw [dText_bad he] at h
        simp only at h
        split at h
        · rw [dText_bad he] at h; simp at h; exact absurd h.2.2 he
        · simp at h; exact absurd h.2.2 he
    · rw [if_neg hk] at h
      have hf : (dFail a e 11).2 ≠ 0 := by
        by_cases he : e = 0
        · subst he; rw [dFail_ok]; simp
        · rw [dFail_bad he]; exact he
      rw [dText_bad hf] at h
      simp only at h
      split at h
      · omega
      · simp at h; exact absurd h.2.2 hf
theorem rdL_back {L : List UInt8} : ∀ {n at_ at2 : Nat} {acc l : List Chg}, rdL L n at_ 0 acc = (l, at2, 0) → at_ ≤ L.length → ∃ m, l = acc ++ m ∧ m.length = n ∧ L.take at2 = L.take at_ ++ m.flatMap cb ∧ at2 ≤ L.length
  | 0, at_, at2, acc, l, h, ha => by
    simp [rdL] at h
    obtain ⟨rfl, rfl⟩ := h
    exact ⟨[], by simp, rfl, by simp, ha⟩
  | n + 1, at_, at2, acc, l, h, ha => by
    rw [rdL_on] at h
    generalize hr : rdC L at_ 0 = r at h
    obtain ⟨c, a, e⟩ := r
    simp only at h
    by_cases he : e = 0
    · subst he
      obtain ⟨c1, c2⟩ := rdC_err hr ha
      obtain ⟨m, m1, m2, m3, m4⟩ := rdL_back h c2
      refine ⟨c :: m, by rw [m1]; simp, by simp [m2], ?_, m4⟩
      rw [m3, c1]; simp
    · rw [rdL_bad he] at h
      simp at h; exact absurd h.2.2 he
theorem bb_parse {L : List UInt8} {seq : Nat} {l : List Chg} (h : parse L = (l, seq, 0)) : bb seq l = L ∧ chkB seq l = 0 := by
  unfold parse at h
  split at h
  · rename_i hp
    split at h
    · rename_i hc
      simp at h
      obtain ⟨rfl, rfl⟩ := h
      refine ⟨?_, hc⟩
      unfold pErr at hp
      have hr0 : (pRows L).2.2 = 0 := by
        refine Classical.byContradiction fun hne => ?_
        rw [dEnd_bad hne] at hp; exact hne hp
      have ha0 : (pAt L).2 = 0 := by
        refine Classical.byContradiction fun hne => ?_
        unfold pRows at hr0; rw [rdL_bad hne] at hr0; exact hne hr0
      have hn0 : ¬ 2000 < (pNum L).1 ∧ (pNum L).2.2 = 0 := by
        unfold pAt at ha0
        split at ha0
        · by_cases he : (pNum L).2.2 = 0
          · rw [he, dFail_ok] at ha0; simp at ha0
          · rw [dFail_bad he] at ha0; exact absurd ha0 he
        · rename_i h1; exact ⟨h1, ha0⟩
      have hw0 : (dTake L 0 0 8).2.2 = 0 := by
        refine Classical.byContradiction fun hne => ?_
        have := hn0.2
        unfold pNum at this; rw [dNum_bad hne] at this; exact hne this
      obtain ⟨w1, w2, w3⟩ := dTake_back (L := L) (at_ := 0) (n := 8) (x := (dTake L 0 0 8).1) (at2 := (dTake L 0 0 8).2.1) (eta3 hw0) (by omega)
      have n1 := dNum_back (L := L) (at_ := (dTake L 0 0 8).2.1) (n := (pNum L).1) (at2 := (pNum L).2.1) (by
        have e := eta3 hn0.2
        unfold pNum at e ⊢
        rw [hw0] at e ⊢
        exact e)
      have n2 : (pNum L).2.1 ≤ L.length := dNum_at w3
      have ea : pAt L = (pNum L).2 := by unfold pAt; rw [if_neg hn0.1]
      obtain ⟨m, m1, m2, m3, m4⟩ := rdL_back (L := L) (n := (pNum L).1) (at_ := (pNum L).2.1) (acc := []) (l := (pRows L).1) (at2 := (pRows L).2.1) (by
        have e := eta3 hr0
        unfold pRows at e ⊢
        rw [ea, hn0.2] at e ⊢
        exact e) n2
      have hend : L.length ≤ (pRows L).2.1 := by
        rw [hr0] at hp
        refine Classical.byContradiction fun hne => ?_
        rw [dEnd_form (by omega)] at hp; simp at hp
      rw [List.take_of_length_le hend, n1, w1] at m3
      simp at m1
      unfold bb pSeq
      rw [m1, m2]
      have e8 : little 8 (big (dTake L 0 0 8).1) = (dTake L 0 0 8).1 := by
        have := little_big (dTake L 0 0 8).1
        rw [w2] at this; exact this
      rw [e8]
      have m5 := m3.symm
      simp only [List.take_zero, List.nil_append, List.append_assoc] at m5
      exact m5
    · simp at h
      rename_i hc
      exact absurd h.2.2 hc
  · rename_i hp
    simp at h; exact absurd h.2.2 hp
theorem parse_bad {L : List UInt8} (h : (parse L).2.2 ≠ 0) : (parse L).1 = [] ∧ (parse L).2.1 = 0 := by
  unfold parse at h ⊢
  split
  · split
    · rename_i h1 h2; rw [if_pos h1, if_pos h2] at h; simp at h
    · exact ⟨rfl, rfl⟩
  · exact ⟨rfl, rfl⟩
end Go.Proofs.YtdkgieaanpfhcaaGreatDoor.Ba
namespace Go.Proofs.YtdkgieaanpfhcaaGreatDoor.Ba
open Go.RowKit
open Go.Proofs.YtdkgieaanpfhcaaGreatDoor
open Vi

/-- A strings.Builder in memory. -/
def Bd (B b : Nat) (l : List UInt8) (w : World) : Prop := Lib.IsBuilderF 118 5 B b (Lib.byteCells l) w
theorem bd_fresh (w : World) : Bd w.heap.size w.heap.size [] (w.alloc (.cells #[.pointer none, .slice none 0 0] 118)) := Lib.IsBuilderF.of (Lib.fresh_isBuilder _ _ w)
theorem at_below {T e : TypeId} {B b : Nat} {p : Value} {l : List Value} {w w' : World} (h : Lib.BuilderAtF T e B b p l w) (hb : Below w.heap.size w w') : Lib.BuilderAtF T e B b p l w' := by
  have hlt := h.lt
  obtain ⟨hB, v, hv, hown, hne⟩ := h
  exact ⟨hB, v, (hb.block b hlt).trans hv, hown.kept (row := none) ⟨hb.os, hb.tape, hb.output, hb.size, fun k hk _ => hb.block k hk⟩ (Classical.em _), hne⟩
theorem bd_below {B b : Nat} {l : List UInt8} {w w' : World} (h : Bd B b l w) (hb : Below w.heap.size w w') : Bd B b l w' :=
  h.elim (fun x => .inl (at_below x hb)) (fun x => .inr (at_below x hb))
theorem bd_lt {B b : Nat} {l : List UInt8} {w : World} (h : Bd B b l w) : B ≤ b ∧ b < w.heap.size :=
  h.elim (fun x => ⟨x.1, x.lt⟩) (fun x => ⟨x.1, x.lt⟩)
/-- what is no row of bytes, and not the builder, is kept -/
def Kept (b : Nat) (w w' : World) : Prop := Lib.OthersKept 5 (some b) w w'
theorem bd_write {B b : Nat} {l s : List UInt8} {w : World} (h : Bd B b l w) (hlen : l.length + s.length ≤ 140737488355328) :
    Calls Tryz.prog 69 #[.pointer (some ⟨b, 0, none⟩), .string (bs s)] w fun e w' => e = .returned (.tuple #[.int .i64 (bs s).size, .nilIface]) ∧ Bd B b (l ++ s) w' ∧ Below B w w' ∧ Kept b w w' := by
  refine (Any.Builder_WriteString_k Tryz.lays166 Tryz.Builder_Extra_166 B b _ (bs s) w h (by rw [Lib.byteCells_length, bs_size]; exact hlen) (by have := bd_lt h; omega)).mono ?_
  rintro e w' ⟨he, hb, hw, hk⟩
  refine ⟨he, .inr ?_, hw, hk⟩
  have e1 : Lib.byteCells (l ++ s) = Lib.byteCells l ++ Lib.strCells (bs s) := by rw [Lib.strCells_eq, bs_toList]; simp [Lib.byteCells]
  rw [e1]; exact hb
theorem bd_string {B b : Nat} {l : List UInt8} {w : World} (h : Bd B b l w) :
    Calls Tryz.prog 74 #[.pointer (some ⟨b, 0, none⟩)] w fun e w' => e = .returned (.string (bs l)) ∧ Below B w w' :=
  (Tryz.Builder_String_any_k B b l w h (by have := bd_lt h; omega)).mono fun _ _ ⟨h1, _, h2, _⟩ => ⟨h1, h2⟩
theorem bd_byte {B b : Nat} {l : List UInt8} {w : World} {c : Int} {d : UInt8} (hc : c = d.toNat) (h : Bd B b l w) (hlen : l.length + 1 ≤ 140737488355328) :
    Calls Tryz.prog 72 #[.pointer (some ⟨b, 0, none⟩), .int .u8 c] w fun e w' => e = .returned .nilIface ∧ Bd B b (l ++ [d]) w' ∧ Below B w w' ∧ Kept b w w' := by
  refine (Any.Builder_WriteByte_k Tryz.lays167 Tryz.Builder_Extra_167 B b _ c w h (by rw [Lib.byteCells_length]; exact hlen) (by have := bd_lt h; omega)).mono ?_
  rintro e w' ⟨he, hb, hw, hk⟩
  refine ⟨he, .inr ?_, hw, hk⟩
  have e1 : Lib.byteCells (l ++ [d]) = Lib.byteCells l ++ [.int .u8 c] := by rw [hc]; simp [Lib.byteCells]
  rw [e1]; exact hb
theorem kept_cells {b k : Nat} {w w' : World} {c : Array Value} (h : Kept b w w') (hk : w.heap[k]? = some (.cells c 63 (0, 0))) (hne : k ≠ b) : w'.heap[k]? = some (.cells c 63 (0, 0)) :=
  h k _ hk (fun e => hne (by injection e)) (fun c2 fz e => by injection e with _ e2; exact absurd e2 (by decide))
theorem kept_below {b : Nat} {w w' : World} (h : Below w.heap.size w w') : Kept b w w' := fun k o hk _ _ => (h.block k (Array.getElem?_eq_some_iff.1 hk).1).trans hk
theorem block_add (a : Addr) (n : Nat) : (a.add n).block = a.block := by unfold Addr.add; split <;> rfl
theorem cell_lt {w : World} {p : Addr} {v : Value} (h : w.cell? p = some v) : p.block < w.heap.size := by
  rcases Nat.lt_or_ge p.block w.heap.size with h' | h'
  · exact h'
  · unfold World.cell? at h
    rw [Array.getElem?_eq_none h'] at h
    simp at h

/-! a row of changes in memory -/
def Chg.val (c : Chg) : Value := .agg #[.int .i64 c.kind, .string c.key, .string c.value]
def Chg.small (c : Chg) : Prop := c.key.size ≤ 9223372036854775807 ∧ c.value.size ≤ 9223372036854775807
def CCells (W : World) (q : Addr) (p : Chg) : Prop := W.cell? q = some (.int .i64 p.kind) ∧ W.cell? ⟨q.block, q.off + 1, none⟩ = some (.string p.key) ∧ W.cell? ⟨q.block, q.off + 2, none⟩ = some (.string p.value)
def CRow (W : World) (ao : Option Addr) (l : List Chg) : Prop := 0 < l.length → ∃ a, ao = some a ∧ a.block < W.heap.size ∧ ∀ i (hi : i < l.length), CCells W (a.add (i * 3)) l[i]
theorem CRow.on {W W' : World} {ao : Option Addr} {l : List Chg} (h : CRow W ao l) (hb : Below W.heap.size W W') : CRow W' ao l := fun h0 => by
  obtain ⟨a, rfl, h1, h2⟩ := h h0
  have := hb.size
  refine ⟨a, rfl, by omega, fun i hi => ?_⟩
  obtain ⟨c0, c1, c2⟩ := h2 i hi
  have hbl : (a.add (i * 3)).block < W.heap.size := by rw [block_add]; exact h1
  exact ⟨(hb.cell (p := a.add (i * 3)) hbl).trans c0, (hb.cell (p := ⟨(a.add (i * 3)).block, (a.add (i * 3)).off + 1, none⟩) hbl).trans c1, (hb.cell (p := ⟨(a.add (i * 3)).block, (a.add (i * 3)).off + 2, none⟩) hbl).trans c2⟩
theorem known_no {k : Int} (h : ¬ (k = 1 ∨ k = 2)) (w : World) :
    Calls Tryz.prog 100 #[.int .i64 k] w fun e w' => e = .returned (.bool false) ∧ w = w' := by
  have h1 : (k == 1) = false := by simp; omega
  have h2 : (k == 2) = false := by simp; omega
  clear h
  go_enter Tryz.func100, Tryz.ntmps100
  go_wp2
  go_ret
  exact ⟨rfl, rfl⟩
theorem known_yes {k : Int} (h : k = 1 ∨ k = 2) (w : World) :
    Calls Tryz.prog 100 #[.int .i64 k] w fun e w' => e = .returned (.bool true) ∧ w = w' := by
  rcases h with rfl | rfl
  all_goals
    go_enter Tryz.func100, Tryz.ntmps100
    go_wp2
    go_ret
    exact ⟨rfl, rfl⟩
theorem str_nil {s : ByteArray} (h : ¬ s.size = 0) : s.toList.isEmpty = false ∧ ¬ s.toList = [] := by
  have e : ¬ s.toList = [] := fun e => h (by rw [Lib.toList_data] at e; rw [← size_len, e]; rfl)
  exact ⟨by simpa using e, e⟩
def CkPost (w : World) (v : Int) (e : Ending) (w' : World) : Prop := e = .returned (.int .i64 v) ∧ Below w.heap.size w w'
theorem check_any (c : Chg) (hs : c.small) (w : World) : Calls Tryz.prog 103 #[c.val] w (CkPost w (chk1 c)) := by
  obtain ⟨k, key, value⟩ := c
  obtain ⟨h1, h2⟩ := hs
  simp only at h1 h2
  unfold Chg.val
  by_cases hk : k = 1 ∨ k = 2
  · have HK := Lib.hid (known_yes hk)
    have n1 : ¬ ¬ (k = 1 ∨ k = 2) := not_not_intro hk
    by_cases c1 : key.size = 0
    · rw [show chk1 ⟨k, key, value⟩ = 19 by unfold chk1; rw [if_neg n1, if_pos (.inl c1)]]
      obtain rfl := empty_of c1
      clear hk n1
      go_enter Tryz.func103, Tryz.ntmps103
      go_wp2_with (go_at_call 100; refine (HK.out _).mono ?_; rintro e w' ⟨rfl, rfl⟩)
      go_ret
      exact ⟨rfl, (Below.refl _ _).alloc (Nat.le_refl _) _⟩
    · obtain ⟨hn, hn'⟩ := str_nil c1
      by_cases c2 : 200 < key.size
      · rw [show chk1 ⟨k, key, value⟩ = 19 by unfold chk1; rw [if_neg n1, if_pos (.inr c2)]]
        clear hk n1
        go_enter Tryz.func103, Tryz.ntmps103
        go_wp2_with (go_at_call 100; refine (HK.out _).mono ?_; rintro e w' ⟨rfl, rfl⟩)
        go_ret
        exact ⟨rfl, (Below.refl _ _).alloc (Nat.le_refl _) _⟩
      · have n2 : ¬ (key.size = 0 ∨ 200 < key.size) := by omega
        by_cases c3 : 4096 < value.size
        · rw [show chk1 ⟨k, key, value⟩ = 5 by unfold chk1; rw [if_neg n1, if_neg n2, if_pos (.inl c3)]]
          clear hk n1 n2
          go_enter Tryz.func103, Tryz.ntmps103
          go_wp2_with (go_at_call 100; refine (HK.out _).mono ?_; rintro e w' ⟨rfl, rfl⟩)
          go_ret
          exact ⟨rfl, (Below.refl _ _).alloc (Nat.le_refl _) _⟩
        · by_cases c4 : k = 2
          · subst c4
            by_cases c5 : value.size = 0
            · rw [show chk1 ⟨2, key, value⟩ = 0 by unfold chk1; rw [if_neg n1, if_neg n2, if_neg (show ¬ (4096 < value.size ∨ ((2 : Int) = 2 ∧ value.size ≠ 0)) by omega)]]
              obtain rfl := empty_of c5
              clear hk n1 n2
              go_enter Tryz.func103, Tryz.ntmps103
              go_wp2_with (go_at_call 100; refine (HK.out _).mono ?_; rintro e w' ⟨rfl, rfl⟩)
              go_ret
              exact ⟨rfl, (Below.refl _ _).alloc (Nat.le_refl _) _⟩
            · rw [show chk1 ⟨2, key, value⟩ = 5 by unfold chk1; rw [if_neg n1, if_neg n2, if_pos (.inr ⟨rfl, c5⟩)]]
              obtain ⟨hn2, hn3⟩ := str_nil c5
              clear hk n1 n2
              go_enter Tryz.func103, Tryz.ntmps103
              go_wp2_with (go_at_call 100; refine (HK.out _).mono ?_; rintro e w' ⟨rfl, rfl⟩)
              go_ret
              exact ⟨rfl, (Below.refl _ _).alloc (Nat.le_refl _) _⟩
          · rw [show chk1 ⟨k, key, value⟩ = 0 by unfold chk1; rw [if_neg n1, if_neg n2, if_neg (show ¬ (4096 < value.size ∨ (k = 2 ∧ value.size ≠ 0)) by omega)]]
            clear hk n1 n2
            have c4' : (k == 2) = false := by simpa using c4
            go_enter Tryz.func103, Tryz.ntmps103
            go_wp2_with (go_at_call 100; refine (HK.out _).mono ?_; rintro e w' ⟨rfl, rfl⟩)
            go_ret
            exact ⟨rfl, (Below.refl _ _).alloc (Nat.le_refl _) _⟩
  · rw [show chk1 ⟨k, key, value⟩ = 11 by unfold chk1; rw [if_pos hk]]
    have HK := Lib.hid (known_no hk)
    clear hk
    go_enter Tryz.func103, Tryz.ntmps103
    go_wp2_with (go_at_call 100; refine (HK.out _).mono ?_; rintro e w' ⟨rfl, rfl⟩)
    go_ret
    exact ⟨rfl, (Below.refl _ _).alloc (Nat.le_refl _) _⟩
end Go.Proofs.YtdkgieaanpfhcaaGreatDoor.Ba
namespace Go.Proofs.YtdkgieaanpfhcaaGreatDoor.Ba
open Go.RowKit
open Go.Proofs.YtdkgieaanpfhcaaGreatDoor
open Vi

theorem check_at (y : Chg) (hs : y.small) (w : World) : Calls Tryz.prog 103 #[.agg #[.int .i64 y.kind, .string y.key, .string y.value]] w (CkPost w (chk1 y)) := check_any y hs w
theorem chkGo_bad {l : List Chg} {j : Nat} (hj : j < l.length) (h : ¬ chk1 l[j] = 0) : chkGo (l.drop j) = chk1 l[j] := by
  rw [List.drop_eq_getElem_cons hj, chkGo, if_neg h]
theorem chkGo_on {l : List Chg} {j : Nat} (hj : j < l.length) (h : chk1 l[j] = 0) : chkGo (l.drop j) = chkGo (l.drop (j + 1)) := by
  rw [List.drop_eq_getElem_cons hj, chkGo, if_pos h]
theorem chkB_go {seq : Nat} {l : List Chg} (h : ¬ 2000 < l.length) (hg : ¬ chkGo l = 0) : chkB seq l = chkGo l := by unfold chkB; rw [if_neg h, if_neg hg]
theorem box2 {w wr : World} {x y : Value} {t : TypeId} (hb : Below (w.heap.size + 1) (w.alloc (.cells #[x, y] t (0, 0))) wr) :
    wr.cell? ⟨w.heap.size, 0, none⟩ = some x ∧ wr.cell? ⟨w.heap.size, 1, none⟩ = some y := by
  have h : wr.heap[w.heap.size]? = some (.cells #[x, y] t (0, 0)) := (hb.block w.heap.size (by omega)).trans (heap_alloc_new w _)
  exact ⟨cell_in h 0 _ rfl, cell_in h 1 _ rfl⟩
theorem box_below {w wr : World} {o : Obj} (hb : Below (w.heap.size + 1) (w.alloc o) wr) : Below w.heap.size w wr :=
  ((Below.refl _ _).alloc (Nat.le_refl _) _).trans (hb.mono (by omega))
theorem box_size {w wr : World} {o : Obj} (hb : Below (w.heap.size + 1) (w.alloc o) wr) : w.heap.size + 1 ≤ wr.heap.size := by
  have := hb.size; simpa using this
theorem box_step {w wr w2 : World} {o o2 : Obj} (hb : Below (w.heap.size + 1) (w.alloc o) wr) (h2 : Below (wr.alloc o2).heap.size (wr.alloc o2) w2) : Below (w.heap.size + 1) (w.alloc o) w2 :=
  (hb.alloc (box_size hb) _).trans (h2.mono (by have := box_size hb; simp; omega))
def CkRel (w : World) (o : Obj) (l : List Chg) (i : Value) (wr : World) : Prop := ∃ j : Nat, j ≤ l.length ∧ i = .int .i64 (j : Nat) ∧ Below (w.heap.size + 1) (w.alloc o) wr ∧ chkGo (l.drop j) = chkGo l
set_option maxHeartbeats 1000000 in
set_option maxRecDepth 100000 in
theorem checkB_any (seq : Nat) (hq : seq < 18446744073709551616) {A : Option Addr} {c : Nat} {l : List Chg} {w : World} (RA : CRow w A l) (hl : l.length ≤ 9223372036854775807) (hs : ∀ p ∈ l, p.small) :
    Calls Tryz.prog 65 #[.agg #[.int .u64 seq, .slice A l.length c]] w (CkPost w (chkB seq l)) := by
  replace RA := Lib.hid RA
  have HS := Lib.hid hs
  clear hs
  by_cases h2 : 2000 < l.length
  · rw [show chkB seq l = 6 from if_pos h2]
    go_enter Tryz.func65, Tryz.ntmps65
    go_wp2
    go_ret
    exact ⟨rfl, (Below.refl _ _).alloc (Nat.le_refl _) _⟩
  go_enter Tryz.func65, Tryz.ntmps65
  go_wp2
  go_loopw [13] (CkRel w (.cells #[.int .u64 seq, .slice A l.length c] 32 (0, 0)) l) (fun i _ => l.length - (intOf i).toNat)
  case atStart => exact ⟨0, by omega, rfl, Below.refl _ _, rfl⟩
  case round =>
    obtain ⟨j, hj, rfl, hb, hgo⟩ := hrel
    have HG := Lib.hid hgo
    clear hgo
    by_cases hlt : j < l.length
    · obtain ⟨a, rfl, hab, hca⟩ := RA.out (by omega)
      obtain ⟨x0, x1, x2⟩ := hca j hlt
      have HC := check_at l[j] (HS.out _ (List.getElem_mem hlt))
      have hbl : (a.add (j * 3)).block < w.heap.size := by rw [block_add]; exact hab
      have hb' := box_below hb
      rw [← hb'.cell (p := a.add (j * 3)) hbl] at x0
      rw [← hb'.cell (p := ⟨(a.add (j * 3)).block, (a.add (j * 3)).off + 1, none⟩) hbl] at x1
      rw [← hb'.cell (p := ⟨(a.add (j * 3)).block, (a.add (j * 3)).off + 2, none⟩) hbl] at x2
      clear hca
      have HB := Lib.hid hb
      clear hb hb'
      by_cases hc : chk1 l[j] = 0
      · have hon := chkGo_on hlt hc
        rw [hc] at HC
        have HC := Lib.hid HC
        have HH := Lib.hid (hon.symm.trans HG.out)
        clear hc hon
        generalize l[j] = y at *
        go_wp2_with (go_at_call 103; refine (HC.out _).mono ?_; rintro e w2 ⟨rfl, hb2⟩)
        go_roundw
        case rel => exact ⟨j + 1, by omega, by go_num, box_step HB.out hb2, HH.out⟩
        case measure => simp [intOf]; omega
      · have HH := Lib.hid ((chkB_go (seq := seq) h2 (by rw [← HG.out, chkGo_bad hlt hc]; exact hc)).trans (HG.out.symm.trans (chkGo_bad hlt hc)))
        have HC := Lib.hid HC
        generalize l[j] = y at *
        have hc' : (chk1 y == 0) = false := by simpa using hc
        have hc2 : (chk1 y != 0) = true := by simp [bne, hc']
        generalize chk1 y = z at *
        go_wp2_with (go_at_call 103; refine (HC.out _).mono ?_; rintro e w2 ⟨rfl, hb2⟩)
        go_ret
        exact ⟨by rw [HH.out]; rfl, box_below (box_step HB.out hb2)⟩
    · have hj2 : j = l.length := by omega
      subst hj2
      have h0 : chkGo l = 0 := by rw [← HG.out, List.drop_of_length_le (Nat.le_refl _)]; rfl
      obtain ⟨b0, b1⟩ := box2 hb
      have HB := Lib.hid hb
      have E : chkB seq l = if 72057594037927935 < seq ∨ 72057594037927935 - seq + 1 < l.length then 8 else 0 := by unfold chkB; rw [if_neg h2, if_pos h0]
      replace E := Lib.hid E
      clear hb h0 HG
      by_cases h3 : 72057594037927935 < seq
      · have E2 : Hid (chkB seq l = 8) := E.out.trans (if_pos (.inl h3))
        go_wp2
        go_ret
        exact ⟨by rw [E2.out]; rfl, box_below HB.out⟩
      · by_cases h4 : 72057594037927935 - seq + 1 < l.length
        · have E2 : Hid (chkB seq l = 8) := E.out.trans (if_pos (.inr h4))
          go_wp2
          go_ret
          exact ⟨by rw [E2.out]; rfl, box_below HB.out⟩
        · have E2 : Hid (chkB seq l = 0) := E.out.trans (if_neg (by omega))
          go_wp2
          go_ret
          exact ⟨by rw [E2.out]; rfl, box_below HB.out⟩
end Go.Proofs.YtdkgieaanpfhcaaGreatDoor.Ba
namespace Go.Proofs.YtdkgieaanpfhcaaGreatDoor.Ba
open Go.RowKit
open Go.Proofs.YtdkgieaanpfhcaaGreatDoor
open Vi

def ByPost (w : World) (r : List UInt8) (v : Int) (e : Ending) (w' : World) : Prop := e = .returned (.tuple #[.string (bs r), .int .i64 v]) ∧ Below w.heap.size w w'
theorem bytes_bad (seq : Nat) (hq : seq < 18446744073709551616) {A : Option Addr} {c : Nat} {l : List Chg} {w : World} (RA : CRow w A l) (hl : l.length ≤ 9223372036854775807) (hs : ∀ p ∈ l, p.small) (hc : ¬ chkB seq l = 0) :
    Calls Tryz.prog 36 #[.agg #[.int .u64 seq, .slice A l.length c]] w (ByPost w [] (chkB seq l)) := by
  have HC := Lib.hid fun (W : World) (h : CRow W A l) => checkB_any seq hq (c := c) h hl hs
  have R1 := Lib.hid (RA.on ((Below.refl _ _).alloc (Nat.le_refl _) (.cells #[.int .u64 seq, .slice A l.length c] 32 (0, 0))))
  have hc' : (chkB seq l == 0) = false := by simpa using hc
  have hc2 : (chkB seq l != 0) = true := by simp [bne, hc']
  clear RA hs hc
  generalize chkB seq l = z at *
  go_enter Tryz.func36, Tryz.ntmps36
  go_wp2_with (go_at_call 65; (with_reducible refine (HC.out _ R1.out).mono ?_); rintro e w2 ⟨rfl, hb2⟩)
  go_ret2
  exact ⟨rfl, ((Below.refl _ _).alloc (Nat.le_refl _) _).trans (hb2.mono (by simp))⟩
/-- what is written ahead of change number j -/
def bbTo (seq : Nat) (l : List Chg) (j : Nat) : List UInt8 := little 8 seq ++ (vnum l.length ++ (l.take j).flatMap cb)
theorem bbTo_on {seq : Nat} {l : List Chg} {j : Nat} (hj : j < l.length) : bbTo seq l (j + 1) = bbTo seq l j ++ cb l[j] := by
  unfold bbTo; rw [List.take_succ_eq_append_getElem hj, List.flatMap_append]; simp
theorem bbTo_all {seq : Nat} {l : List Chg} : bbTo seq l l.length = bb seq l := by unfold bbTo bb; rw [List.take_length]
theorem bbTo_len {seq : Nat} {l : List Chg} {j : Nat} (h : ∀ c ∈ l, chk1 c = 0) (hl : l.length ≤ 2000) (hj : j ≤ l.length) : (bbTo seq l j).length ≤ 8700000 := by
  have h1 := flat_len (l := l.take j) fun c hc => h c (List.mem_of_mem_take hc)
  have h2 := vnum_len10 (n := l.length) (by omega)
  rw [List.length_take] at h1
  unfold bbTo; rw [List.length_append, List.length_append, little_len]; omega
/-- the batch's box and the builder, at one world -/
def ByAt (w : World) (o : Obj) (b : Nat) (s : List UInt8) (wr : World) : Prop := Below (w.heap.size + 1) (w.alloc o) wr ∧ Bd b b s wr ∧ w.heap.size + 1 ≤ b
theorem byAt_start {w w2 : World} {o : Obj} (h : Below (w.alloc o).heap.size (w.alloc o) w2) : ByAt w o w2.heap.size [] (w2.alloc (.cells #[.pointer none, .slice none 0 0] 118 (0, 0))) := by
  have hs := h.size
  simp at hs
  exact ⟨(h.mono (by simp)).alloc (by omega) _, bd_fresh w2, hs⟩
theorem byAt_below {w wr w2 : World} {o : Obj} {b : Nat} {s : List UInt8} (h : ByAt w o b s wr) (hb : Below wr.heap.size wr w2) : ByAt w o b s w2 :=
  ⟨h.1.trans (hb.mono (box_size h.1)), bd_below h.2.1 hb, h.2.2⟩
theorem byAt_write {w wr w2 : World} {o : Obj} {b : Nat} {s s2 : List UInt8} (h : ByAt w o b s wr) (hb : Below b wr w2) (hd : Bd b b s2 w2) : ByAt w o b s2 w2 :=
  ⟨h.1.trans (hb.mono h.2.2), hd, h.2.2⟩
theorem byAt_box {w wr : World} {x y : Value} {t : TypeId} {b : Nat} {s : List UInt8} (h : ByAt w (.cells #[x, y] t (0, 0)) b s wr) :
    wr.cell? ⟨w.heap.size, 0, none⟩ = some x ∧ wr.cell? ⟨w.heap.size, 1, none⟩ = some y := box2 h.1
theorem byAt_bd {w wr : World} {o : Obj} {b : Nat} {s : List UInt8} (h : ByAt w o b s wr) : Bd b b s wr := h.2.1
theorem byAt_num {w wr : World} {o : Obj} {b : Nat} {s : List UInt8} (h : ByAt w o b s wr) : w.heap.size < b ∧ b < wr.heap.size ∧ w.heap.size < wr.heap.size := by
  have := bd_lt h.2.1; have := h.2.2; omega
theorem text_vtx (s : ByteArray) (hs : s.size ≤ 1000000) (w : World) :
    Calls Tryz.prog 73 #[.string s] w fun e w' => e = .returned (.string (bs (vtx s))) ∧ Below w.heap.size w w' := text_any s hs w
theorem byAt_alloc {w wr : World} {o o2 : Obj} {b : Nat} {s : List UInt8} (h : ByAt w o b s wr) : ByAt w o b s (wr.alloc o2) := byAt_below h ((Below.refl _ _).alloc (Nat.le_refl _) _)
theorem bbTo_put {seq : Nat} {l : List Chg} {j : Nat} {key value : ByteArray} (hj : j < l.length) (h : l[j] = ⟨1, key, value⟩) : ((bbTo seq l j ++ [1]) ++ vtx key) ++ vtx value = bbTo seq l (j + 1) := by
  rw [bbTo_on hj, h, cb, if_pos rfl, show UInt8.ofNat (Int.toNat 1) = 1 from rfl]; simp
theorem bbTo_del {seq : Nat} {l : List Chg} {j : Nat} {key value : ByteArray} (hj : j < l.length) (h : l[j] = ⟨2, key, value⟩) : (bbTo seq l j ++ [2]) ++ vtx key = bbTo seq l (j + 1) := by
  rw [bbTo_on hj, h, cb, if_neg (show ¬ (2 : Int) = 1 by decide), show UInt8.ofNat (Int.toNat 2) = 2 from rfl]; simp
theorem bbTo_zero {seq : Nat} {l : List Chg} : ([] ++ little 8 seq) ++ vnum l.length = bbTo seq l 0 := by unfold bbTo; simp
theorem chg_kept {b k0 : Nat} {w2 w4 : World} {x y z : Value} (hb : Kept b w2 w4) (hn : w2.heap[k0]? = some (.cells #[x, y, z] 63 (0, 0))) (hk : b < k0) :
    w4.heap[k0]? = some (.cells #[x, y, z] 63 (0, 0)) := kept_cells hb hn (by omega)
theorem chg_cells {k0 : Nat} {w4 : World} {x y z : Value} (h : w4.heap[k0]? = some (.cells #[x, y, z] 63 (0, 0))) :
    w4.cell? ⟨k0, 0, none⟩ = some x ∧ w4.cell? ⟨k0, 1, none⟩ = some y ∧ w4.cell? ⟨k0, 2, none⟩ = some z := ⟨cell_in h 0 _ rfl, cell_in h 1 _ rfl, cell_in h 2 _ rfl⟩
theorem u8_one : (1 : Int) = ((1 : UInt8).toNat : Int) := rfl
theorem u8_two : (2 : Int) = ((2 : UInt8).toNat : Int) := rfl
def ByRel (w : World) (o : Obj) (b : Nat) (seq : Nat) (l : List Chg) (i : Value) (wr : World) : Prop :=
  ∃ j : Nat, j ≤ l.length ∧ i = .int .i64 (j : Nat) ∧ ByAt w o b (bbTo seq l j) wr
set_option maxHeartbeats 1000000 in
set_option maxRecDepth 100000 in
theorem bytes_ok (seq : Nat) {A : Option Addr} {c : Nat} {l : List Chg} {w : World} (RA : CRow w A l) (hs : ∀ p ∈ l, p.small) (hc : chkB seq l = 0) :
    Calls Tryz.prog 36 #[.agg #[.int .u64 seq, .slice A l.length c]] w (ByPost w (bb seq l) 0) := by
  obtain ⟨k1, k2, k3, k4⟩ := chkB_ok.1 hc
  have hq : seq < 18446744073709551616 := by omega
  have hl : l.length ≤ 9223372036854775807 := by omega
  have HC := Lib.hid fun (W : World) (h : CRow W A l) => checkB_any seq hq (c := c) h hl hs
  rw [hc] at HC
  have R1 := Lib.hid (RA.on ((Below.refl _ _).alloc (Nat.le_refl _) (.cells #[.int .u64 seq, .slice A l.length c] 32 (0, 0))))
  replace RA := Lib.hid RA
  have HW := Lib.hid (wide_any seq hq)
  have HN := Lib.hid (num_any l.length (by omega))
  have hn10 := vnum_len10 (n := l.length) (by omega)
  have K2 := Lib.hid k2
  have L1 : Hid (([] : List UInt8).length + (little 8 seq).length ≤ 140737488355328) := by rw [Hid, little_len]; decide
  have L2 : Hid (([] ++ little 8 seq).length + (vnum l.length).length ≤ 140737488355328) := by rw [Hid, List.nil_append, little_len]; omega
  clear hs hc k2
  go_enter Tryz.func36, Tryz.ntmps36
  go_wp2_with (first
    | (go_at_call 65; (with_reducible refine (HC.out _ R1.out).mono ?_); rintro e w2 ⟨rfl, hb2⟩; have B2 := Lib.hid (byAt_start hb2); obtain ⟨d0, d1⟩ := byAt_box B2.out; obtain ⟨n0, n1, n2⟩ := byAt_num B2.out; clear hb2)
    | (go_at_call 70; (with_reducible refine (HW.out _).mono ?_); rintro e w3 ⟨rfl, hb3⟩; have B3 := Lib.hid (byAt_below B2.out hb3); clear hb3)
    | (go_at_call 71; (with_reducible refine (HN.out _).mono ?_); rintro e w3 ⟨rfl, hb3⟩; have B5 := Lib.hid (byAt_below B4.out hb3); clear hb3)
    | (go_at_call 69; (with_reducible refine (bd_write (byAt_bd B5.out) L2.out).mono ?_); rintro e w4 ⟨rfl, hd4, hb4, _⟩; have B6 := Lib.hid (byAt_write B5.out hb4 hd4); obtain ⟨g0, g1⟩ := byAt_box B6.out; clear hb4 hd4)
    | (go_at_call 69; (with_reducible refine (bd_write (byAt_bd B3.out) L1.out).mono ?_); rintro e w4 ⟨rfl, hd4, hb4, _⟩; have B4 := Lib.hid (byAt_write B3.out hb4 hd4); obtain ⟨f0, f1⟩ := byAt_box B4.out; clear hb4 hd4))
  go_loopw [26] (ByRel w (.cells #[.int .u64 seq, .slice A l.length c] 32 (0, 0)) w2.heap.size seq l) (fun i _ => l.length - (intOf i).toNat)
  case atStart => exact ⟨0, by omega, rfl, by rw [← bbTo_zero]; exact B6.out⟩
  case round =>
    obtain ⟨j, hj, rfl, hrel⟩ := hrel
    have C0 := Lib.hid hrel
    clear hrel B2 B3 B4 B5 B6
    by_cases hlt : j < l.length
    · obtain ⟨a, rfl, hab, hca⟩ := RA.out (by omega)
      obtain ⟨x0, x1, x2⟩ := hca j hlt
      have hck := K2.out l[j] (List.getElem_mem hlt)
      have hbl : (a.add (j * 3)).block < w.heap.size := by rw [block_add]; exact hab
      have hb' := box_below C0.out.1
      rw [← hb'.cell (p := a.add (j * 3)) hbl] at x0
      rw [← hb'.cell (p := ⟨(a.add (j * 3)).block, (a.add (j * 3)).off + 1, none⟩) hbl] at x1
      rw [← hb'.cell (p := ⟨(a.add (j * 3)).block, (a.add (j * 3)).off + 2, none⟩) hbl] at x2
      clear hca hb'
      have hlen := bbTo_len (seq := seq) K2.out k1 hj
      have C1 := Lib.hid (byAt_alloc (o2 := .cells #[.int .i64 l[j].kind, .string l[j].key, .string l[j].value] 63 (0, 0)) C0.out)
      have HY := Lib.hid (rfl : l[j] = l[j])
      generalize hy : l[j] = y at x0 x1 x2 hck C1
      replace hy := Lib.hid hy
      obtain ⟨k, key, value⟩ := y
      obtain ⟨hk, t1, t2, t3, t4⟩ := chk1_ok.1 hck
      simp only at x0 x1 x2 hk t1 t2 t3 t4 C1
      have v1 := vtx_len (s := key) (by omega)
      have v2 := vtx_len (s := value) (by omega)
      have T1 := Lib.hid (text_vtx key (by omega))
      have T2 := Lib.hid (text_vtx value (by omega))
      have M1 : Hid ((bbTo seq l j).length + 1 ≤ 140737488355328) := by rw [Hid]; omega
      have M2 : ∀ d : UInt8, Hid ((bbTo seq l j ++ [d]).length + (vtx key).length ≤ 140737488355328) := fun d => by rw [Hid, List.length_append]; simp; omega
      have M3 : ∀ d : UInt8, Hid (((bbTo seq l j ++ [d]) ++ vtx key).length + (vtx value).length ≤ 140737488355328) := fun d => by rw [Hid, List.length_append, List.length_append]; simp; omega
      clear hck
      rcases hk with rfl | rfl
      · go_wp2_with (first
          | (go_at_call 72; (with_reducible refine (bd_byte u8_one (byAt_bd C1.out) M1.out).mono ?_); rintro e w4 ⟨rfl, hd4, hb4, hk4⟩; have C2 := Lib.hid (byAt_write C1.out hb4 hd4); have Q2 := Lib.hid (chg_kept hk4 (heap_alloc_new _ _) (byAt_num C0.out).2.1); obtain ⟨y0, y1, y2⟩ := chg_cells Q2.out; clear hd4 hb4 hk4)
          | (go_at_call 73; have Z := C4; (with_reducible refine (T2.out _).mono ?_); rintro e w5 ⟨rfl, hb5⟩; have C5 := Lib.hid (byAt_below C4.out hb5); clear hb5)
          | (go_at_call 73; (with_reducible refine (T1.out _).mono ?_); rintro e w5 ⟨rfl, hb5⟩; have C3 := Lib.hid (byAt_below C2.out hb5); have Q3 := Lib.hid (chg_kept (kept_below hb5) Q2.out (byAt_num C0.out).2.1); clear hb5)
          | (go_at_call 69; (with_reducible refine (bd_write (byAt_bd C5.out) (M3 _).out).mono ?_); rintro e w6 ⟨rfl, hd6, hb6, _⟩; have C6 := Lib.hid (byAt_write C5.out hb6 hd6); clear hb6 hd6)
          | (go_at_call 69; (with_reducible refine (bd_write (byAt_bd C3.out) (M2 _).out).mono ?_); rintro e w6 ⟨rfl, hd6, hb6, hk6⟩; have C4 := Lib.hid (byAt_write C3.out hb6 hd6); obtain ⟨z0, z1, z2⟩ := chg_cells (chg_kept hk6 Q3.out (byAt_num C0.out).2.1); clear hb6 hd6 hk6))
        go_roundw
        case rel => exact ⟨j + 1, by omega, by go_num, by rw [← bbTo_put hlt hy.out]; exact C6.out⟩
        case measure => simp [intOf]; omega
      · go_wp2_with (first
          | (go_at_call 72; (with_reducible refine (bd_byte u8_two (byAt_bd C1.out) M1.out).mono ?_); rintro e w4 ⟨rfl, hd4, hb4, hk4⟩; have C2 := Lib.hid (byAt_write C1.out hb4 hd4); have Q2 := Lib.hid (chg_kept hk4 (heap_alloc_new _ _) (byAt_num C0.out).2.1); obtain ⟨y0, y1, y2⟩ := chg_cells Q2.out; clear hd4 hb4 hk4)
          | (go_at_call 73; have Z := C4; (with_reducible refine (T2.out _).mono ?_); rintro e w5 ⟨rfl, hb5⟩; have C5 := Lib.hid (byAt_below C4.out hb5); clear hb5)
          | (go_at_call 73; (with_reducible refine (T1.out _).mono ?_); rintro e w5 ⟨rfl, hb5⟩; have C3 := Lib.hid (byAt_below C2.out hb5); have Q3 := Lib.hid (chg_kept (kept_below hb5) Q2.out (byAt_num C0.out).2.1); clear hb5)
          | (go_at_call 69; (with_reducible refine (bd_write (byAt_bd C5.out) (M3 _).out).mono ?_); rintro e w6 ⟨rfl, hd6, hb6, _⟩; have C6 := Lib.hid (byAt_write C5.out hb6 hd6); clear hb6 hd6)
          | (go_at_call 69; (with_reducible refine (bd_write (byAt_bd C3.out) (M2 _).out).mono ?_); rintro e w6 ⟨rfl, hd6, hb6, hk6⟩; have C4 := Lib.hid (byAt_write C3.out hb6 hd6); obtain ⟨z0, z1, z2⟩ := chg_cells (chg_kept hk6 Q3.out (byAt_num C0.out).2.1); clear hb6 hd6 hk6))
        go_roundw
        case rel => exact ⟨j + 1, by omega, by go_num, by rw [← bbTo_del hlt hy.out]; exact C4.out⟩
        case measure => simp [intOf]; omega
    · have hj2 : j = l.length := by omega
      subst hj2
      rw [bbTo_all] at C0
      go_wp2_with (go_at_call 74; (with_reducible refine (bd_string (byAt_bd C0.out)).mono ?_); rintro e w7 ⟨rfl, hb7⟩)
      go_ret2
      exact ⟨rfl, box_below (C0.out.1.trans (hb7.mono C0.out.2.2))⟩
end Go.Proofs.YtdkgieaanpfhcaaGreatDoor.Ba
namespace Go.Proofs.YtdkgieaanpfhcaaGreatDoor.Ba
open Go.RowKit
open Go.Proofs.YtdkgieaanpfhcaaGreatDoor
open Vi

/-- a reader, the answer's box and what was there, behind some calls -/
structure RS (w : World) (a : Nat) (s : ByteArray) (c : Array Value) (at_ : Nat) (err : Int) (W : World) : Prop where
  rd : RdAt 149 W a s at_ err
  box : W.heap[w.heap.size]? = some (.cells c 63 (0, 0))
  grown : w.grownBy W (some a)
  lt : a < w.heap.size
theorem rs_size {w : World} {a : Nat} {s : ByteArray} {c : Array Value} {at_ : Nat} {err : Int} {W : World} (h : RS w a s c at_ err W) : w.heap.size < W.heap.size := (Array.getElem?_eq_some_iff.1 h.box).1
theorem rs_start {w : World} {a : Nat} {s : ByteArray} {at_ : Nat} {err : Int} (h : RdAt 149 w a s at_ err) (c : Array Value) : RS w a s c at_ err (w.alloc (.cells c 63 (0, 0))) :=
  have hb : Below w.heap.size w (w.alloc (.cells c 63 (0, 0))) := (Below.refl _ _).alloc (Nat.le_refl _) _
  ⟨by unfold RdAt; rw [hb.block a (rd_lt h)]; exact h, heap_alloc_new _ _, grown_below hb _, rd_lt h⟩
theorem rs_post {w : World} {a : Nat} {s : ByteArray} {c : Array Value} {at_ : Nat} {err : Int} {W W' : World} {p : Nat × Int} (h : RS w a s c at_ err W) (h1 : RdAt 149 W' a s p.1 p.2) (hg : W.grownBy W' (some a)) : RS w a s c p.1 p.2 W' :=
  ⟨h1, (hg.block _ (rs_size h) (fun e => by have := h.lt; injection e with e; omega)).trans h.box, h.grown.trans hg, h.lt⟩
theorem rs_alloc {w : World} {a : Nat} {s : ByteArray} {c : Array Value} {at_ : Nat} {err : Int} {W : World} (h : RS w a s c at_ err W) (o : Obj) : RS w a s c at_ err (W.alloc o) :=
  have hb : Below W.heap.size W (W.alloc o) := (Below.refl _ _).alloc (Nat.le_refl _) _
  ⟨by unfold RdAt; rw [hb.block a (rd_lt h.rd)]; exact h.rd, (hb.block _ (rs_size h)).trans h.box, h.grown.trans (grown_below hb _), h.lt⟩
theorem rs_set {w : World} {a : Nat} {s : ByteArray} {c : Array Value} {at_ : Nat} {err : Int} {W : World} (h : RS w a s c at_ err W) {k : Nat} (hk : w.heap.size < k) (i : Nat) (v : Value) : RS w a s c at_ err (W.setCell ⟨k, i, none⟩ v) :=
  have hk' : ∀ j, j ≤ w.heap.size → (W.setCell ⟨k, i, none⟩ v).heap[j]? = W.heap[j]? := fun j hj => Below.heap_setCell W ⟨k, i, none⟩ v j (fun e => by simp at e; omega)
  ⟨by unfold RdAt; rw [hk' a (Nat.le_of_lt h.lt)]; exact h.rd, (hk' _ (Nat.le_refl _)).trans h.box,
    ⟨h.grown.os, h.grown.tape, h.grown.output, by have := h.grown.size; simpa [World.setCell] using this, fun j hj hne => (hk' j (Nat.le_of_lt hj)).trans (h.grown.block j hj hne)⟩, h.lt⟩
theorem cb_post {a k : Nat} {W W' : World} {o : Obj} (h : W.heap[k]? = some o) (hg : W.grownBy W' (some a)) (hk : a < k) : W'.heap[k]? = some o :=
  (hg.block _ (Array.getElem?_eq_some_iff.1 h).1 (fun e => by injection e with e; omega)).trans h
theorem ret_chg {f : Func} (hf : f.results = #[.cell 2 63]) {R : Ending → World → Prop} {a : Act} {wf : World} {x y z : Value} {g : Nat}
    (h2 : a.tmps.getD 2 undef = .pointer (some ⟨g, 0, none⟩)) (hd : a.defers = [])
    (hrow : wf.heap[g]? = some (.cells #[x, y, z] 63 (0, 0)))
    (hR : R (.returned (.agg #[x, y, z])) wf) : bodyPost Tryz.prog f R .ret a wf := by
  have k0 := cell_in hrow 0 _ rfl
  have k1 := cell_in hrow 1 _ rfl
  have k2 := cell_in hrow 2 _ rfl
  have g2 : a.tmps[2]?.getD undef = .pointer (some ⟨g, 0, none⟩) := by simpa using h2
  exact bodyPost_ret (v := .agg #[x, y, z]) (by simp [results, hf, g2, go_sem, k0, k1, k2]) hd hR
theorem row_sets3 {wr : World} {g : Nat} {x y z : Value} (h : wr.heap[g]? = some (.cells #[x, y, z] 63 (0, 0))) (v0 v1 v2 : Value) :
    (((wr.setCell ⟨g, 0, none⟩ v0).setCell ⟨g, 1, none⟩ v1).setCell ⟨g, 2, none⟩ v2).heap[g]? = some (.cells #[v0, v1, v2] 63 (0, 0)) := by
  rw [heap_set (heap_set (heap_set h 0 v0) 1 v1) 2 v2]; rfl
/-- the answer of a call that reads a change -/
def RcPost (w : World) (a : Nat) (s : ByteArray) (r : Chg × Nat × Int) (e : Ending) (w' : World) : Prop :=
  e = .returned r.1.val ∧ RdAt 149 w' a s r.2.1 r.2.2 ∧ w.grownBy w' (some a)
theorem rs_end {w : World} {a : Nat} {s : ByteArray} {c : Array Value} {at_ : Nat} {err : Int} {W : World} (h : RS w a s c at_ err W) (x y z : Value) :
    RdAt 149 (((W.setCell ⟨w.heap.size, 0, none⟩ x).setCell ⟨w.heap.size, 1, none⟩ y).setCell ⟨w.heap.size, 2, none⟩ z) a s at_ err ∧ w.grownBy (((W.setCell ⟨w.heap.size, 0, none⟩ x).setCell ⟨w.heap.size, 1, none⟩ y).setCell ⟨w.heap.size, 2, none⟩ z) (some a) := by
  have hk' : ∀ j, j < w.heap.size → (((W.setCell ⟨w.heap.size, 0, none⟩ x).setCell ⟨w.heap.size, 1, none⟩ y).setCell ⟨w.heap.size, 2, none⟩ z).heap[j]? = W.heap[j]? := fun j hj => by
    rw [Below.heap_setCell _ ⟨w.heap.size, 2, none⟩ z j (fun e => by simp at e; omega), Below.heap_setCell _ ⟨w.heap.size, 1, none⟩ y j (fun e => by simp at e; omega), Below.heap_setCell _ ⟨w.heap.size, 0, none⟩ x j (fun e => by simp at e; omega)]
  refine ⟨by unfold RdAt; rw [hk' a h.lt]; exact h.rd, h.grown.os, h.grown.tape, h.grown.output, ?_, fun j hj hne => (hk' j hj).trans (h.grown.block j hj hne)⟩
  have := h.grown.size
  simpa [World.setCell] using this
theorem rdC_none {L : List UInt8} {at_ : Nat} {err : Int} (h : (dTake L at_ err 1).1 = []) : rdC L at_ err = (⟨0, ⟨#[]⟩, ⟨#[]⟩⟩, (dTake L at_ err 1).2) := by
  unfold rdC; rw [h]
theorem rdC_put {L : List UInt8} {at_ : Nat} {err : Int} {c : UInt8} (h : (dTake L at_ err 1).1 = [c]) (hc : c.toNat = 1) :
    rdC L at_ err = (⟨1, bs (dText L (dTake L at_ err 1).2.1 (dTake L at_ err 1).2.2 200).1, bs (dText L (dText L (dTake L at_ err 1).2.1 (dTake L at_ err 1).2.2 200).2.1 (dText L (dTake L at_ err 1).2.1 (dTake L at_ err 1).2.2 200).2.2 4096).1⟩, (dText L (dText L (dTake L at_ err 1).2.1 (dTake L at_ err 1).2.2 200).2.1 (dText L (dTake L at_ err 1).2.1 (dTake L at_ err 1).2.2 200).2.2 4096).2) := by
  have e1 : c.toNat = 1 ∨ c.toNat = 2 := .inl hc
  unfold rdC; rw [h]; simp only [if_pos e1, if_pos hc]
theorem rdC_del {L : List UInt8} {at_ : Nat} {err : Int} {c : UInt8} (h : (dTake L at_ err 1).1 = [c]) (hc : c.toNat = 2) :
    rdC L at_ err = (⟨2, bs (dText L (dTake L at_ err 1).2.1 (dTake L at_ err 1).2.2 200).1, ⟨#[]⟩⟩, (dText L (dTake L at_ err 1).2.1 (dTake L at_ err 1).2.2 200).2) := by
  have e1 : c.toNat = 1 ∨ c.toNat = 2 := .inr hc
  have e2 : ¬ c.toNat = 1 := by omega
  unfold rdC; rw [h]; simp only [if_pos e1, if_neg e2]; rw [hc]; rfl
theorem rdC_odd {L : List UInt8} {at_ : Nat} {err : Int} {c : UInt8} (h : (dTake L at_ err 1).1 = [c]) (hc : ¬ (c.toNat = 1 ∨ c.toNat = 2)) :
    rdC L at_ err = (⟨c.toNat, bs (dText L (dFail (dTake L at_ err 1).2.1 (dTake L at_ err 1).2.2 11).1 (dFail (dTake L at_ err 1).2.1 (dTake L at_ err 1).2.2 11).2 200).1, ⟨#[]⟩⟩, (dText L (dFail (dTake L at_ err 1).2.1 (dTake L at_ err 1).2.2 11).1 (dFail (dTake L at_ err 1).2.1 (dTake L at_ err 1).2.2 11).2 200).2) := by
  have e2 : ¬ c.toNat = 1 := by omega
  unfold rdC; rw [h]; simp only [if_neg hc, if_neg e2]
theorem read_none {w : World} {a : Nat} {s : ByteArray} {at_ : Nat} {err : Int} (h : RdAt 149 w a s at_ err) (hs : s.size ≤ 1000000) (ha : at_ ≤ s.size) (hn : (dTake s.data.toList at_ err 1).1 = []) :
    Calls Tryz.prog 63 #[.pointer (some ⟨a, 0, none⟩)] w (RcPost w a s (rdC s.data.toList at_ err)) := by
  rw [rdC_none hn]
  have R0 := rs_start h #[.int .i64 0, .string ⟨#[]⟩, .string ⟨#[]⟩]
  have HT := take_any 1 R0.rd hs ha
  rw [hn] at HT
  generalize (dTake s.data.toList at_ err 1).2 = p at HT ⊢
  replace HT := Lib.hid HT
  replace R0 := Lib.hid R0
  have hbz := bs_size
  have hbl := bs_list
  clear h hn
  go_enter Tryz.func63, Tryz.ntmps63
  go_wp2_with (first
    | (go_at_call 99; (with_reducible refine HT.out.mono ?_); rintro e w1 ⟨rfl, h1, g1⟩; have R1 := Lib.hid (rs_post R0.out h1 g1); obtain ⟨k0, k1, k2⟩ := chg_cells R1.out.box; have f0 := free_in R1.out.box; clear h1 g1))
  exact ret_chg rfl rfl rfl (row_sets3 R1.out.box _ _ _) ⟨rfl, rs_end R1.out _ _ _⟩
set_option maxHeartbeats 1000000 in
theorem read_put {w : World} {a : Nat} {s : ByteArray} {at_ : Nat} {err : Int} {c : UInt8} (h : RdAt 149 w a s at_ err) (hs : s.size ≤ 1000000) (ha : at_ ≤ s.size) (hn : (dTake s.data.toList at_ err 1).1 = [c]) (hc : c.toNat = 1) :
    Calls Tryz.prog 63 #[.pointer (some ⟨a, 0, none⟩)] w (RcPost w a s (rdC s.data.toList at_ err)) := by
  rw [rdC_put hn hc]
  have R0 := rs_start h #[.int .i64 0, .string ⟨#[]⟩, .string ⟨#[]⟩]
  have hlt := R0.lt
  have HT := take_any 1 R0.rd hs ha
  have ha1 := dTake_at (l := s.data.toList) (at_ := at_) (err := err) (n := 1) ha
  rw [hn] at HT
  generalize (dTake s.data.toList at_ err 1).2 = p at HT ha1 ⊢
  have ha2 := dText_at (l := s.data.toList) (at_ := p.1) (err := p.2) (most := 200) ha1
  have X1 := Lib.hid fun (W : World) (h : RdAt 149 W a s p.1 p.2) => rtext_any 200 (by decide) h hs ha1
  generalize dText s.data.toList p.1 p.2 200 = q at X1 ha2 ⊢
  have X2 := Lib.hid fun (W : World) (h : RdAt 149 W a s q.2.1 q.2.2) => rtext_any 4096 (by decide) h hs ha2
  generalize dText s.data.toList q.2.1 q.2.2 4096 = r at X2 ⊢
  obtain ⟨q1, q2⟩ := q
  obtain ⟨r1, r2⟩ := r
  simp only at X1 X2 ha2 ⊢
  replace HT := Lib.hid HT
  replace R0 := Lib.hid R0
  have hbz := bs_size
  have hbl := bs_list
  have hbx : ∀ (c : UInt8) (h : 0 < (bs [c]).size), (bs [c])[0]'h = c := fun _ _ => rfl
  have HK := Lib.hid (known_yes (k := 1) (by omega))
  have hcl : c.toNat < 256 := c.toNat_lt
  clear h hn

  go_enter Tryz.func63, Tryz.ntmps63
  go_wp2_with (first
    | (go_at_call 99; (with_reducible refine HT.out.mono ?_); rintro e w1 ⟨rfl, h1, g1⟩; have R1 := Lib.hid (rs_alloc (rs_post R0.out h1 g1) (.cells #[.int .i64 1, .string ⟨#[]⟩, .string ⟨#[]⟩] 63 (0, 0))); have hz1 := rs_size (rs_post R0.out h1 g1); clear h1 g1)
    | (go_at_call 100; (with_reducible refine (HK.out _).mono ?_); rintro e w2 ⟨rfl, rfl⟩)
    | (go_at_call 101; (with_reducible refine (X2.out _ R3.out.rd).mono ?_); rintro e w5 ⟨rfl, h3, g3⟩; have R5 := Lib.hid (rs_set (rs_post R3.out h3 g3) hz1 2 (.string (bs r1))); have R6 := rs_post R3.out h3 g3; have b3 := cb_post B4.out g3 (by omega); obtain ⟨e0, e1, e2⟩ := chg_cells b3; have f5 := free_in b3; obtain ⟨k0, k1, k2⟩ := chg_cells R5.out.box; obtain ⟨k3, k4, k5⟩ := chg_cells R6.box; have k6 := free_in R6.box; clear b3 R6 h3 g3)
    | (go_at_call 101; (with_reducible refine (X1.out _ R1.out.rd).mono ?_); rintro e w3 ⟨rfl, h3, g3⟩; have R3 := Lib.hid (rs_set (rs_post R1.out h3 g3) hz1 1 (.string (bs q1))); have b3 := cb_post (heap_alloc_new w1 _) g3 (by omega); obtain ⟨d0, d1, d2⟩ := chg_cells b3; have f3 := free_in b3; have b4 := heap_set b3 1 (.string (bs q1)); have B4 := Lib.hid b4; clear b3 b4 h3 g3))
  exact ret_chg rfl rfl rfl (row_sets3 R5.out.box _ _ _) ⟨rfl, rs_end R5.out _ _ _⟩
set_option maxHeartbeats 1000000 in
theorem read_del {w : World} {a : Nat} {s : ByteArray} {at_ : Nat} {err : Int} {c : UInt8} (h : RdAt 149 w a s at_ err) (hs : s.size ≤ 1000000) (ha : at_ ≤ s.size) (hn : (dTake s.data.toList at_ err 1).1 = [c]) (hc : c.toNat = 2) :
    Calls Tryz.prog 63 #[.pointer (some ⟨a, 0, none⟩)] w (RcPost w a s (rdC s.data.toList at_ err)) := by
  rw [rdC_del hn hc]
  have R0 := rs_start h #[.int .i64 0, .string ⟨#[]⟩, .string ⟨#[]⟩]
  have hlt := R0.lt
  have HT := take_any 1 R0.rd hs ha
  have ha1 := dTake_at (l := s.data.toList) (at_ := at_) (err := err) (n := 1) ha
  rw [hn] at HT
  generalize (dTake s.data.toList at_ err 1).2 = p at HT ha1 ⊢
  have ha2 := dText_at (l := s.data.toList) (at_ := p.1) (err := p.2) (most := 200) ha1
  have X1 := Lib.hid fun (W : World) (h : RdAt 149 W a s p.1 p.2) => rtext_any 200 (by decide) h hs ha1
  generalize dText s.data.toList p.1 p.2 200 = q at X1 ha2 ⊢
  obtain ⟨q1, q2⟩ := q
  simp only at X1 ha2 ⊢
  replace HT := Lib.hid HT
  replace R0 := Lib.hid R0
  have hbz := bs_size
  have hbl := bs_list
  have hbx : ∀ (c : UInt8) (h : 0 < (bs [c]).size), (bs [c])[0]'h = c := fun _ _ => rfl
  have HK := Lib.hid (known_yes (k := 2) (by omega))
  have hcl : c.toNat < 256 := c.toNat_lt
  clear h hn

  go_enter Tryz.func63, Tryz.ntmps63
  go_wp2_with (first
    | (go_at_call 99; (with_reducible refine HT.out.mono ?_); rintro e w1 ⟨rfl, h1, g1⟩; have R1 := Lib.hid (rs_alloc (rs_post R0.out h1 g1) (.cells #[.int .i64 2, .string ⟨#[]⟩, .string ⟨#[]⟩] 63 (0, 0))); have hz1 := rs_size (rs_post R0.out h1 g1); clear h1 g1)
    | (go_at_call 100; (with_reducible refine (HK.out _).mono ?_); rintro e w2 ⟨rfl, rfl⟩)
    | (go_at_call 101; (with_reducible refine (X1.out _ R1.out.rd).mono ?_); rintro e w3 ⟨rfl, h3, g3⟩; have R3 := Lib.hid (rs_set (rs_post R1.out h3 g3) hz1 1 (.string (bs q1))); have b3 := cb_post (heap_alloc_new w1 _) g3 (by omega); obtain ⟨d0, d1, d2⟩ := chg_cells b3; have f3 := free_in b3; have b4 := heap_set b3 1 (.string (bs q1)); have B4 := Lib.hid b4; obtain ⟨k0, k1, k2⟩ := chg_cells R3.out.box; have R6 := rs_post R1.out h3 g3; obtain ⟨k3, k4, k5⟩ := chg_cells R6.box; have k6 := free_in R6.box; clear R6 b3 b4 h3 g3))
  exact ret_chg rfl rfl rfl (row_sets3 R3.out.box _ _ _) ⟨rfl, rs_end R3.out _ _ _⟩
set_option maxHeartbeats 1000000 in
theorem read_odd {w : World} {a : Nat} {s : ByteArray} {at_ : Nat} {err : Int} {c : UInt8} (h : RdAt 149 w a s at_ err) (hs : s.size ≤ 1000000) (ha : at_ ≤ s.size) (hn : (dTake s.data.toList at_ err 1).1 = [c]) (hc : ¬ (c.toNat = 1 ∨ c.toNat = 2)) :
    Calls Tryz.prog 63 #[.pointer (some ⟨a, 0, none⟩)] w (RcPost w a s (rdC s.data.toList at_ err)) := by
  rw [rdC_odd hn hc]
  have R0 := rs_start h #[.int .i64 0, .string ⟨#[]⟩, .string ⟨#[]⟩]
  have hlt := R0.lt
  have HT := take_any 1 R0.rd hs ha
  have ha1 := dTake_at (l := s.data.toList) (at_ := at_) (err := err) (n := 1) ha
  rw [hn] at HT
  generalize (dTake s.data.toList at_ err 1).2 = p at HT ha1 ⊢
  have hf := dFail_at p.1 p.2 11
  have X0 := Lib.hid fun (W : World) (h : RdAt 149 W a s p.1 p.2) => fail_any 11 h
  generalize dFail p.1 p.2 11 = d at hf X0 ⊢
  rw [← hf] at ha1
  have ha2 := dText_at (l := s.data.toList) (at_ := d.1) (err := d.2) (most := 200) ha1
  have X1 := Lib.hid fun (W : World) (h : RdAt 149 W a s d.1 d.2) => rtext_any 200 (by decide) h hs ha1
  generalize dText s.data.toList d.1 d.2 200 = q at X1 ha2 ⊢
  obtain ⟨q1, q2⟩ := q
  simp only at X1 ha2 ⊢
  replace HT := Lib.hid HT
  replace R0 := Lib.hid R0
  have hbz := bs_size
  have hbl := bs_list
  have hbx : ∀ (c : UInt8) (h : 0 < (bs [c]).size), (bs [c])[0]'h = c := fun _ _ => rfl
  have HK := Lib.hid (known_no (k := (c.toNat : Int)) (by omega))
  have hcl : c.toNat < 256 := c.toNat_lt
  clear h hn
  have hc1 : ((c.toNat : Int) == 1) = false := by simp; omega
  replace hc := Lib.hid hc

  go_enter Tryz.func63, Tryz.ntmps63
  go_wp2_with (first
    | (go_at_call 99; (with_reducible refine HT.out.mono ?_); rintro e w1 ⟨rfl, h1, g1⟩; have R1 := Lib.hid (rs_alloc (rs_post R0.out h1 g1) (.cells #[.int .i64 c.toNat, .string ⟨#[]⟩, .string ⟨#[]⟩] 63 (0, 0))); have hz1 := rs_size (rs_post R0.out h1 g1); clear h1 g1)
    | (go_at_call 100; (with_reducible refine (HK.out _).mono ?_); rintro e w2 ⟨rfl, rfl⟩)
    | (go_at_call 61; (with_reducible refine (X0.out _ R1.out.rd).mono ?_); rintro e w2 ⟨rfl, h2, g2⟩; have R2 := Lib.hid (rs_post R1.out h2 g2); have B2 := Lib.hid (cb_post (heap_alloc_new w1 _) g2 (by omega)); clear h2 g2)
    | (go_at_call 101; (with_reducible refine (X1.out _ R2.out.rd).mono ?_); rintro e w3 ⟨rfl, h3, g3⟩; have R3 := Lib.hid (rs_set (rs_post R2.out h3 g3) hz1 1 (.string (bs q1))); have b3 := cb_post B2.out g3 (by omega); obtain ⟨d0, d1, d2⟩ := chg_cells b3; have f3 := free_in b3; have b4 := heap_set b3 1 (.string (bs q1)); have B4 := Lib.hid b4; obtain ⟨k0, k1, k2⟩ := chg_cells R3.out.box; have R6 := rs_post R2.out h3 g3; obtain ⟨k3, k4, k5⟩ := chg_cells R6.box; have k6 := free_in R6.box; clear R6 b3 b4 h3 g3))
  exact ret_chg rfl rfl rfl (row_sets3 R3.out.box _ _ _) ⟨rfl, rs_end R3.out _ _ _⟩
theorem dTake_one {l : List UInt8} {at_ : Nat} {err : Int} : (dTake l at_ err 1).1.length ≤ 1 := by
  by_cases he : err = 0
  · subst he
    by_cases hc : (1 : Int) ≤ (l.length : Int) - at_
    · rw [dTake_ok (by omega) hc]; simp; omega
    · rw [dTake_short (.inr (by omega))]; simp
  · rw [dTake_bad he]; simp
theorem read_any {w : World} {a : Nat} {s : ByteArray} {at_ : Nat} {err : Int} (h : RdAt 149 w a s at_ err) (hs : s.size ≤ 1000000) (ha : at_ ≤ s.size) :
    Calls Tryz.prog 63 #[.pointer (some ⟨a, 0, none⟩)] w (RcPost w a s (rdC s.data.toList at_ err)) := by
  have hl := dTake_one (l := s.data.toList) (at_ := at_) (err := err)
  match hn : (dTake s.data.toList at_ err 1).1 with
  | [] => exact read_none h hs ha hn
  | [c] =>
    by_cases h1 : c.toNat = 1
    · exact read_put h hs ha hn h1
    · by_cases h2 : c.toNat = 2
      · exact read_del h hs ha hn h2
      · exact read_odd h hs ha hn (by omega)
  | c :: d :: r => rw [hn] at hl; simp at hl
end Go.Proofs.YtdkgieaanpfhcaaGreatDoor.Ba
namespace Go.Proofs.YtdkgieaanpfhcaaGreatDoor.Ba
open Go.RowKit
open Go.Proofs.YtdkgieaanpfhcaaGreatDoor
open Vi

def Chg.cells (c : Chg) : List Value := [.int .i64 c.kind, .string c.key, .string c.value]
def cCells (l : List Chg) : List Value := l.flatMap Chg.cells
theorem cCells_snoc (l : List Chg) (c : Chg) : cCells (l ++ [c]) = cCells l ++ c.cells := by unfold cCells; rw [List.flatMap_append]; simp
theorem infoChg : (Tryz.prog.info? 63).map (fun i => (i.zero, i.size, i.bytes)) = some (some (.agg #[.int .i64 0, .string ⟨#[]⟩, .string ⟨#[]⟩]), 3, 40) := by kernel_rfl
theorem news_three (w1 : World) (u v x : Value) (t : TypeId) : ∀ j y, [u, v, x][j]? = some y → (w1.alloc (.cells #[u, v, x] t)).cell? ((⟨w1.heap.size, 0, none⟩ : Addr).add j) = some y := by
  intro j y hj
  match j, hj with
  | 0, hj => simp at hj; subst hj; simp [Addr.add]
  | 1, hj => simp at hj; subst hj; simp [Addr.add]
  | 2, hj => simp at hj; subst hj; simp [Addr.add]
/-- Parse under way: the answer's box, the reader, the batch's box, its row -/
structure PS (w : World) (s : ByteArray) (kb : Nat) (seq : Nat) (v : Value) (l : List Chg) (at_ : Nat) (err : Int) (W : World) : Prop where
  rd : RdAt 149 W (w.heap.size + 1) s at_ err
  box : W.heap[w.heap.size]? = some (.cells #[.int .u64 0, .slice none 0 0] 32 (0, 0))
  b : W.heap[kb]? = some (.cells #[.int .u64 seq, v] 32 (0, 0))
  own : W.ownsRow (kb + 1) 63 3 v l.length (cCells l)
  below : Below w.heap.size w W
  far : w.heap.size + 1 < kb
section
variable {w : World} {s : ByteArray} {kb seq : Nat} {v : Value} {l : List Chg} {at_ : Nat} {err : Int} {W W' : World}
theorem PS.size (h : PS w s kb seq v l at_ err W) : kb < W.heap.size := (Array.getElem?_eq_some_iff.1 h.b).1
theorem PS.row_far (h : PS w s kb seq v l at_ err W) : ∀ k, v.ownBlock = some k → kb < k := fun k hk => by have := (h.own.lt k hk).1; omega
theorem ps_grown (h : PS w s kb seq v l at_ err W) {at2 : Nat} {err2 : Int} (hr : RdAt 149 W' (w.heap.size + 1) s at2 err2) (hg : W.grownBy W' (some (w.heap.size + 1))) : PS w s kb seq v l at2 err2 W' :=
  have hz := h.size
  have hf := h.far
  ⟨hr, (hg.block _ (by omega) (fun e => by injection e with e; omega)).trans h.box, (hg.block _ (by omega) (fun e => by injection e with e; omega)).trans h.b,
    h.own.kept hg (.inr (fun e => by have := h.row_far _ e; omega)),
    h.below.trans ⟨hg.os, hg.tape, hg.output, hg.size, fun k hk => hg.block k (by omega) (fun e => by injection e with e; omega)⟩, h.far⟩
theorem ps_below (h : PS w s kb seq v l at_ err W) (hb : Below W.heap.size W W') : PS w s kb seq v l at_ err W' :=
  ps_grown h (by unfold RdAt; rw [hb.block _ (rd_lt h.rd)]; exact h.rd) (grown_below hb _)
theorem ps_alloc (h : PS w s kb seq v l at_ err W) (o : Obj) : PS w s kb seq v l at_ err (W.alloc o) := ps_below h ((Below.refl _ _).alloc (Nat.le_refl _) _)
theorem ps_drew (h : PS w s kb seq v l at_ err W) : PS w s kb seq v l at_ err W.drew := ⟨h.rd, h.box, h.b, h.own, h.below.drew, h.far⟩
theorem ps_cells (h : PS w s kb seq v l at_ err W) : W.cell? ⟨kb, 0, none⟩ = some (.int .u64 seq) ∧ W.cell? ⟨kb, 1, none⟩ = some v ∧ ∀ j, W.frozen? ⟨kb, j, none⟩ = false := ⟨cell_in h.b 0 _ rfl, cell_in h.b 1 _ rfl, free_in h.b⟩
theorem ps_box (h : PS w s kb seq v l at_ err W) : W.cell? ⟨w.heap.size, 0, none⟩ = some (.int .u64 0) ∧ W.cell? ⟨w.heap.size, 1, none⟩ = some (.slice none 0 0) ∧ ∀ j, W.frozen? ⟨w.heap.size, j, none⟩ = false := ⟨cell_in h.box 0 _ rfl, cell_in h.box 1 _ rfl, free_in h.box⟩
/-- a row that was appended to is put into the batch's box -/
theorem ps_put (h : PS w s kb seq v l at_ err W) {v2 : Value} {l2 : List Chg} {W2 : World} (hg : W.grownBy W2 v.ownBlock) (ho : W2.ownsRow (kb + 1) 63 3 v2 l2.length (cCells l2)) : PS w s kb seq v2 l2 at_ err (W2.setCell ⟨kb, 1, none⟩ v2) := by
  have hz := h.size
  have hf := h.far
  have hkeep : ∀ k, k ≤ kb → k < W.heap.size → W2.heap[k]? = W.heap[k]? := fun k hk hlt => hg.block k hlt (fun e => by have := h.row_far _ e.symm; omega)
  have hset : ∀ k, k ≠ kb → (W2.setCell ⟨kb, 1, none⟩ v2).heap[k]? = W2.heap[k]? := fun k hk => Below.heap_setCell W2 ⟨kb, 1, none⟩ v2 k (fun e => hk (by simpa using e))
  refine ⟨?_, ?_, ?_, ?_, ?_, hf⟩
  · unfold RdAt; rw [hset _ (by omega), hkeep _ (by omega) (by omega)]; exact h.rd
  · rw [hset _ (by omega), hkeep _ (by omega) (by omega)]; exact h.box
  · have hb2 : W2.heap[kb]? = some (.cells #[.int .u64 seq, v] 32 (0, 0)) := (hkeep kb (Nat.le_refl _) hz).trans h.b
    exact heap_set hb2 1 v2
  · exact ho.kept (grown_set W2 kb 1 v2) (.inr (fun e => by have := (ho.lt _ e).1; omega))
  · have hs := hg.size
    refine h.below.trans ⟨hg.os, hg.tape, hg.output, by simpa [World.setCell] using hs, fun k hk => ?_⟩
    rw [hset _ (by omega), hkeep _ (by omega) (by omega)]
end
theorem ps_start {w w2 : World} {s : ByteArray} {seq at_ : Nat} {err : Int} (hr : RdAt 149 w2 (w.heap.size + 1) s at_ err) (hb : w2.heap[w.heap.size]? = some (.cells #[.int .u64 0, .slice none 0 0] 32 (0, 0))) (hw : Below w.heap.size w w2) :
    PS w s w2.heap.size seq (.slice none 0 0) [] at_ err (w2.alloc (.cells #[.int .u64 seq, .slice none 0 0] 32 (0, 0))) := by
  have h1 := rd_lt hr
  have hbl : Below w2.heap.size w2 (w2.alloc (.cells #[.int .u64 seq, .slice none 0 0] 32 (0, 0))) := (Below.refl _ _).alloc (Nat.le_refl _) _
  exact ⟨by unfold RdAt; rw [hbl.block _ h1]; exact hr, (hbl.block _ (by omega)).trans hb, heap_alloc_new _ _, World.ownsRow_nil _ _ _ _, hw.trans (hbl.mono hw.size), h1⟩
/-- the loop: n more are to be read -/
theorem owns_base {w : World} {B B2 : Nat} {e : TypeId} {k n : Nat} {v : Value} {xs : List Value} (h : w.ownsRow B e k v n xs) (hb : B2 ≤ B) : w.ownsRow B2 e k v n xs :=
  ⟨h.1, h.2.imp id fun ⟨g, cap, cur, h1, h2, h3⟩ => ⟨g, cap, cur, h1, Nat.le_trans hb h2, h3⟩⟩
def PaJ (w : World) (s : ByteArray) (kb : Nat) (nv : Value) (W : World) : Prop :=
  ∃ (n : Nat) (v : Value) (l : List Chg) (at_ : Nat) (err : Int), nv = .int .u64 n ∧ PS w s kb (pSeq s.data.toList) v l at_ err W ∧ at_ ≤ s.size ∧ rdL s.data.toList n at_ err l = pRows s.data.toList ∧ (err = 0 → l.length + n ≤ 2000) ∧ (∀ p ∈ l, p.small) ∧ l.length ≤ 2000
def PaPost (w : World) (s : ByteArray) (e : Ending) (w' : World) : Prop :=
  ∃ v, e = .returned (.tuple #[.agg #[.int .u64 (parse s.data.toList).2.1, v], .int .i64 (parse s.data.toList).2.2]) ∧ w'.ownsRow w.heap.size 63 3 v (parse s.data.toList).1.length (cCells (parse s.data.toList).1) ∧ Below w.heap.size w w'
theorem rdC_at {L : List UInt8} {at_ : Nat} {err : Int} (h : at_ ≤ L.length) : (rdC L at_ err).2.1 ≤ L.length := by
  have h1 := dTake_at (l := L) (at_ := at_) (err := err) (n := 1) h
  unfold rdC
  split
  · exact h1
  · rename_i c r heq
    simp only
    have h2 : (if c.toNat = 1 ∨ c.toNat = 2 then (dTake L at_ err 1).2 else dFail (dTake L at_ err 1).2.1 (dTake L at_ err 1).2.2 11).1 ≤ L.length := by
      split
      · exact h1
      · rw [dFail_at]; exact h1
    have h3 := dText_at (l := L) (err := (if c.toNat = 1 ∨ c.toNat = 2 then (dTake L at_ err 1).2 else dFail (dTake L at_ err 1).2.1 (dTake L at_ err 1).2.2 11).2) (most := 200) h2
    split
    · exact dText_at h3
    · exact h3
theorem dText_len {L : List UInt8} {at_ : Nat} {err most : Int} : (dText L at_ err most).1.length ≤ L.length := by
  rw [dText_eq]; split
  · simp
  · exact dTake_len
theorem rdC_small {L : List UInt8} {at_ : Nat} {err : Int} (h : L.length ≤ 1000000) : (rdC L at_ err).1.small := by
  have hx : ∀ {a : Nat} {e m : Int}, (bs (dText L a e m).1).size ≤ 9223372036854775807 := fun {a e m} => by
    have := dText_len (L := L) (at_ := a) (err := e) (most := m)
    rw [bs_size]; omega
  unfold rdC
  split
  · exact ⟨Nat.zero_le _, Nat.zero_le _⟩
  · simp only
    split
    · exact ⟨hx, hx⟩
    · exact ⟨hx, Nat.zero_le _⟩
theorem cflat_at : ∀ (l : List Chg) (i : Nat) (hi : i < l.length) (r : Nat), r < 3 → (cCells l)[i * 3 + r]? = l[i].cells[r]?
  | p :: l, 0, _, r, hr => by
    rw [cCells, List.flatMap_cons, Nat.zero_mul, Nat.zero_add, List.getElem?_append_left (by simpa [Chg.cells] using hr)]; rfl
  | p :: l, i + 1, hi, r, hr => by
    have e : (i + 1) * 3 + r - p.cells.length = i * 3 + r := by simp [Chg.cells]; omega
    rw [cCells, List.flatMap_cons, List.getElem?_append_right (by simp [Chg.cells]; omega), e]
    exact cflat_at l i (by simpa using hi) r hr
theorem add_flat (g k : Nat) : (⟨g, 0, none⟩ : Addr).add k = ⟨g, k, none⟩ := by unfold Addr.add; split <;> simp_all
theorem crow_of_owns {w : World} {B : Nat} {v : Value} {l : List Chg} (h : w.ownsRow B 63 3 v l.length (cCells l)) :
    ∃ A c, v = .slice A l.length c ∧ CRow w A l := by
  have hc := fun g hg => h.cells (g := g) hg
  rcases h.2 with ⟨rfl, h0⟩ | ⟨g, cap, cur, rfl, hb, hg, _⟩
  · exact ⟨none, 0, by rw [h0], fun h1 => by omega⟩
  · refine ⟨some ⟨g, 0, none⟩, cap, rfl, fun _ => ⟨_, rfl, (Array.getElem?_eq_some_iff.1 hg).1, fun i hi => ?_⟩⟩
    have hk : ∀ r u, r < 3 → l[i].cells[r]? = some u → w.cell? ⟨g, i * 3 + r, none⟩ = some u := fun r u hr hu => by
      have := hc g rfl (i * 3 + r) u (by rw [cflat_at l i hi r hr]; exact hu)
      rwa [add_flat] at this
    rw [add_flat]
    exact ⟨hk 0 _ (by decide) rfl, hk 1 _ (by decide) rfl, hk 2 _ (by decide) rfl⟩
theorem ps_wide {w w1 w2 : World} {s : ByteArray} {seq : Nat} {p : Nat × Int} (h1 : RdAt 149 w1 (w.alloc (.cells #[.int .u64 0, .slice none 0 0] 32 (0, 0))).heap.size s 0 0) (b1 : Below (w.alloc (.cells #[.int .u64 0, .slice none 0 0] 32 (0, 0))).heap.size (w.alloc (.cells #[.int .u64 0, .slice none 0 0] 32 (0, 0))) w1)
    (h2 : RdAt 149 w2 (w.heap.size + 1) s p.1 p.2) (g2 : w1.grownBy w2 (some (w.heap.size + 1))) :
    PS w s w2.heap.size seq (.slice none 0 0) [] p.1 p.2 (w2.alloc (.cells #[.int .u64 seq, .slice none 0 0] 32 (0, 0))) := by
  have hz := b1.size
  simp at hz
  have hb : Below w.heap.size w w1 := ((Below.refl _ _).alloc (Nat.le_refl _) _).trans (b1.mono (by simp))
  refine ps_start h2 ?_ (hb.trans ⟨g2.os, g2.tape, g2.output, g2.size, fun k hk => g2.block k (by omega) (fun e => by injection e with e; omega)⟩)
  rw [g2.block _ (by omega) (fun e => by injection e with e; omega), b1.block _ (by simp)]
  exact heap_alloc_new _ _
theorem ret_batch {f : Func} (hf : f.results = #[.cell 2 32, .tmp 3]) {R : Ending → World → Prop} {a : Act} {wf : World} {x y : Value} {n : Int} {g : Nat}
    (h2 : a.tmps.getD 2 undef = .pointer (some ⟨g, 0, none⟩)) (h3 : a.tmps.getD 3 undef = .int .i64 n) (hd : a.defers = [])
    (hrow : wf.heap[g]? = some (.cells #[x, y] 32 (0, 0)))
    (hR : R (.returned (.tuple #[.agg #[x, y], .int .i64 n])) wf) : bodyPost Tryz.prog f R .ret a wf := by
  have k0 := cell_in hrow 0 _ rfl
  have k1 := cell_in hrow 1 _ rfl
  have g2 : a.tmps[2]?.getD undef = .pointer (some ⟨g, 0, none⟩) := by simpa using h2
  have g3 : a.tmps[3]?.getD undef = .int .i64 n := by simpa using h3
  exact bodyPost_ret (v := .tuple #[.agg #[x, y], .int .i64 n]) (by simp [results, hf, g2, g3, go_sem, k0, k1]) hd hR
theorem row_sets2 {wr : World} {g : Nat} {x y : Value} (h : wr.heap[g]? = some (.cells #[x, y] 32 (0, 0))) (v0 v1 : Value) :
    ((wr.setCell ⟨g, 0, none⟩ v0).setCell ⟨g, 1, none⟩ v1).heap[g]? = some (.cells #[v0, v1] 32 (0, 0)) := by
  rw [heap_set (heap_set h 0 v0) 1 v1]; rfl
theorem below_sets2 {w wr : World} {g : Nat} {v0 v1 : Value} (h : Below g w wr) : Below g w ((wr.setCell ⟨g, 0, none⟩ v0).setCell ⟨g, 1, none⟩ v1) :=
  (h.setCell (Nat.le_refl _) _).setCell (Nat.le_refl _) _
theorem ps_drewN {w : World} {s : ByteArray} {kb seq : Nat} {v : Value} {l : List Chg} {at_ : Nat} {err : Int} {W : World} (h : PS w s kb seq v l at_ err W) (k : Nat) : PS w s kb seq v l at_ err (W.drewN k) :=
  ⟨h.rd, h.box, h.b, h.own, ⟨h.below.os, h.below.tape, h.below.output, h.below.size, h.below.block⟩, h.far⟩
theorem own_sets {w : World} {s : ByteArray} {kb seq : Nat} {v x y : Value} {l : List Chg} {at_ : Nat} {err : Int} {W : World} (h : PS w s kb seq v l at_ err W) : ((W.setCell ⟨w.heap.size, 0, none⟩ x).setCell ⟨w.heap.size, 1, none⟩ y).ownsRow w.heap.size 63 3 v l.length (cCells l) := by
  have hf := h.far
  exact owns_base ((h.own.kept (grown_set W w.heap.size 0 x) (.inr fun e => by have := h.row_far _ e; omega)).kept (grown_set _ w.heap.size 1 y) (.inr fun e => by have := h.row_far _ e; omega)) (by omega)
set_option maxHeartbeats 2000000 in
set_option maxRecDepth 100000 in
theorem parse_any (s : ByteArray) (hs : s.size ≤ 1000000) (w : World) :
    Calls Tryz.prog 31 #[.string s] w (PaPost w s) := by
  obtain ⟨i0, hi, hz0, hz1, hz2⟩ := info_parts infoChg
  have HI := Lib.hid (And.intro hi (And.intro hz0 (And.intro hz1 hz2)))
  clear hi hz0 hz1 hz2
  have O1 := Lib.hid (over_any s)
  have ha1 := dTake_at (l := s.data.toList) (at_ := 0) (err := 0) (n := 8) (by omega)
  have W1 : Hid (∀ (W : World), RdAt 149 W (w.heap.size + 1) s 0 0 → Calls Tryz.prog 59 #[.pointer (some ⟨w.heap.size + 1, 0, none⟩)] W (RdPost 149 W (w.heap.size + 1) s (.int .u64 (pSeq s.data.toList)) (dTake s.data.toList 0 0 8).2)) := fun (W : World) h => rwide_any h hs (by omega)
  have ha2 : (pNum s.data.toList).2.1 ≤ s.data.toList.length := dNum_at ha1
  have N1 : Hid (∀ (W : World), RdAt 149 W (w.heap.size + 1) s (dTake s.data.toList 0 0 8).2.1 (dTake s.data.toList 0 0 8).2.2 → Calls Tryz.prog 60 #[.pointer (some ⟨w.heap.size + 1, 0, none⟩)] W (RdPost 149 W (w.heap.size + 1) s (.int .u64 (pNum s.data.toList).1) (pNum s.data.toList).2)) := fun (W : World) h => rnum_any h hs ha1
  have hnl : (pNum s.data.toList).1 < 18446744073709551616 := dNum_lt _ _ _
  have HR : Hid (rdL s.data.toList (pNum s.data.toList).1 (pAt s.data.toList).1 (pAt s.data.toList).2 [] = pRows s.data.toList) := rfl
  have HA : Hid (pAt s.data.toList = if 2000 < (pNum s.data.toList).1 then dFail (pNum s.data.toList).2.1 (pNum s.data.toList).2.2 6 else (pNum s.data.toList).2) := rfl
  have HC := Lib.hid fun (W : World) (A : Option Addr) (c : Nat) (l : List Chg) (RA : CRow W A l) (hl : l.length ≤ 9223372036854775807) (hs : ∀ p ∈ l, p.small) (hq : pSeq s.data.toList < 18446744073709551616) => checkB_any (pSeq s.data.toList) hq (c := c) RA hl hs
  have hq : pSeq s.data.toList < 18446744073709551616 := by
    have h1 := dTake_small (l := s.data.toList) (at_ := 0) (err := 0) (n := 8) (by omega)
    have h2 := big_lt (dTake s.data.toList 0 0 8).1
    exact Nat.lt_of_lt_of_le h2 (Nat.le_trans (Nat.pow_le_pow_right (by decide) h1) (by decide))
  generalize (dTake s.data.toList 0 0 8).2 = p0 at W1 N1 ha1
  generalize hX : pNum s.data.toList = N at N1 ha2 hnl HR HA
  obtain ⟨n0, p1⟩ := N
  simp only at N1 ha2 hnl HR HA
  go_enter Tryz.func31, Tryz.ntmps31
  rcases Nat.lt_or_ge 2000 n0 with hmany | hmany
  case' inl =>
    have HA2 : Hid (pAt s.data.toList = dFail p1.1 p1.2 6) := HA.out.trans (if_pos hmany)
    have F1 := Lib.hid fun (W : World) (h : RdAt 149 W (w.heap.size + 1) s p1.1 p1.2) => fail_any 6 h
    go_wp2_with (first
      | (go_at_call 58; (with_reducible refine (O1.out _).mono ?_); rintro e w1 ⟨rfl, h1, b1⟩; have Q1 := Lib.hid (And.intro h1 b1); clear h1 b1)
      | (go_at_call 59; (with_reducible refine (W1.out _ (by simpa using Q1.out.1)).mono ?_); rintro e w2 ⟨rfl, h2, g2⟩; have P2 := Lib.hid (ps_wide (seq := pSeq s.data.toList) Q1.out.1 Q1.out.2 h2 g2); clear h2 g2 Q1)
      | (go_at_call 60; (with_reducible refine (N1.out _ P2.out.rd).mono ?_); rintro e w3 ⟨rfl, h3, g3⟩; have P3 := Lib.hid (ps_grown P2.out h3 g3); clear h3 g3)
      | (go_at_call 61; (with_reducible refine (F1.out _ P3.out.rd).mono ?_); rintro e w4 ⟨rfl, h4, g4⟩; have P4 := Lib.hid (ps_grown P3.out h4 g4); clear h4 g4))
    have PX : Hid (PS w s w2.heap.size (pSeq s.data.toList) (.slice none 0 0) [] (pAt s.data.toList).1 (pAt s.data.toList).2 w4) := by rw [HA2.out]; exact P4.out
    have HZ : Hid ((pAt s.data.toList).2 = 0 → n0 ≤ 2000) := fun h => by
      rw [HA2.out] at h
      by_cases he : p1.2 = 0
      · rw [he, dFail_ok] at h; simp at h
      · rw [dFail_bad he] at h; exact absurd h he
    have HT : Hid ((pAt s.data.toList).1 ≤ s.size) := by rw [HA2.out]; rw [Hid, dFail_at]; exact ha2
  case' inr =>
    have HA2 : Hid (pAt s.data.toList = p1) := HA.out.trans (if_neg (by omega))
    go_wp2_with (first
      | (go_at_call 58; (with_reducible refine (O1.out _).mono ?_); rintro e w1 ⟨rfl, h1, b1⟩; have Q1 := Lib.hid (And.intro h1 b1); clear h1 b1)
      | (go_at_call 59; (with_reducible refine (W1.out _ (by simpa using Q1.out.1)).mono ?_); rintro e w2 ⟨rfl, h2, g2⟩; have P2 := Lib.hid (ps_wide (seq := pSeq s.data.toList) Q1.out.1 Q1.out.2 h2 g2); clear h2 g2 Q1)
      | (go_at_call 60; (with_reducible refine (N1.out _ P2.out.rd).mono ?_); rintro e w3 ⟨rfl, h3, g3⟩; have P3 := Lib.hid (ps_grown P2.out h3 g3); clear h3 g3))
    have PX : Hid (PS w s w2.heap.size (pSeq s.data.toList) (.slice none 0 0) [] (pAt s.data.toList).1 (pAt s.data.toList).2 w3) := by rw [HA2.out]; exact P3.out
    have HZ : Hid ((pAt s.data.toList).2 = 0 → n0 ≤ 2000) := fun h => by
      exact hmany
    have HT : Hid ((pAt s.data.toList).1 ≤ s.size) := by rw [HA2.out]; exact ha2
  all_goals
    clear HA HA2 P2 P3 hmany
    go_loopw [6] (PaJ w s w2.heap.size) (fun nv _ => (intOf nv).toNat)
    case atStart => exact ⟨n0, _, [], _, _, rfl, PX.out, HT.out, HR.out, fun h => by have := HZ.out h; simpa using this, (fun p hp => by cases hp), by simp⟩
    case round =>
      obtain ⟨n, v, l, at_, err, rfl, P, hat, hrd, hle, hsm, hll⟩ := hrel
      replace P := Lib.hid P
      replace hrd := Lib.hid hrd
      replace hsm := Lib.hid hsm
      have ER := Lib.hid (err_any P.out.rd)
      clear PX HZ HT HR
      by_cases hgo : n ≠ 0 ∧ err = 0
      · obtain ⟨hn, rfl⟩ := hgo
        have hle := hle rfl
        have RC := Lib.hid fun (W : World) (h : RdAt 149 W (w.heap.size + 1) s at_ 0) => read_any h hs hat
        have hsc := rdC_small (L := s.data.toList) (at_ := at_) (err := 0) hs
        have hac := rdC_at (L := s.data.toList) (at_ := at_) (err := 0) hat
        obtain ⟨m, rfl⟩ : ∃ m, n = m + 1 := ⟨n - 1, by omega⟩
        have hr2 := hrd.out
        rw [rdL_on] at hr2
        generalize rdC s.data.toList at_ 0 = R at RC hsc hac hr2
        obtain ⟨⟨ck, ckey, cval⟩, a2, e2⟩ := R
        simp only at hac hr2
        have RC : Hid (∀ (W : World), RdAt 149 W (w.heap.size + 1) s at_ 0 → Calls Tryz.prog 63 #[.pointer (some ⟨w.heap.size + 1, 0, none⟩)] W fun e w' => e = .returned (.agg #[.int .i64 ck, .string ckey, .string cval]) ∧ RdAt 149 w' (w.heap.size + 1) s a2 e2 ∧ W.grownBy w' (some (w.heap.size + 1))) := fun W h => RC.out W h
        replace hr2 := Lib.hid hr2
        replace hsc := Lib.hid hsc
        obtain ⟨d0, d1, d2⟩ := ps_cells P.out
        have hfar := P.out.far
        have hsz := P.out.size
        clear hrd
        go_wp2_with (first
          | (go_at_call 62; (with_reducible refine ER.out.mono ?_); rintro e w5 ⟨rfl, rfl⟩))
        go_region_law (first
          | (refine step_append_lies _ rfl _ _ 30 rfl (w2.heap.size + 1) 63 i0 _ 3 40 Tryz.underlying30 HI.out.1 HI.out.2.1 HI.out.2.2.1 HI.out.2.2.2 rfl (by decide) v l.length (cCells l) rfl (P6.out.own.alloc _) ⟨w6.heap.size, 0, none⟩ 1 1 [.int .i64 ck, .string ckey, .string cval] rfl rfl (news_three w6 _ _ _ _) (by simp [Value.oneCell']) (by omega) (by unfold maxLen; omega) (by omega) (by simp; omega) (w6.heap.size + 1) (by simp) ?_
             intro g cap w7 hown7 hgrow7 hwhere hlt7
             have HE := Lib.hid (And.intro hown7 hgrow7)
             have b8 : w7.heap[w2.heap.size]? = some (.cells #[.int .u64 (pSeq s.data.toList), v] 32 (0, 0)) := (hgrow7.block _ (by simp; omega) (fun e => by have := P6.out.row_far _ e.symm; omega)).trans (ps_alloc P6.out _).b
             have D8 := cell_in b8 1 _ rfl
             have F8 := free_in b8 1
             clear hown7 hgrow7 hwhere hlt7 b8)
          | (go_simp; go_at_call 63; (with_reducible first | refine (RC.out _ P.out.rd).mono ?_ | refine (RC.out _ (ps_drew P.out).rd).mono ?_); rintro e w6 ⟨rfl, h6, g6⟩; have P6 : Hid (PS w s w2.heap.size (pSeq s.data.toList) v l a2 e2 w6) := (by first | exact ps_grown P.out h6 g6 | exact ps_grown (ps_drew P.out) h6 g6); obtain ⟨d3, d4, d5⟩ := ps_cells P6.out; have hsz6 := P6.out.size; clear h6 g6))
        all_goals
          go_wp2
          go_roundw
          case rel => exact ⟨m, _, l ++ [⟨ck, ckey, cval⟩], a2, e2, by go_num, ps_put (ps_alloc P6.out _) HE.out.2 (by rw [cCells_snoc, List.length_append]; exact HE.out.1), hac, hr2.out, fun _ => by rw [List.length_append, List.length_singleton]; omega, (fun p hp => by
            rcases List.mem_append.1 hp with hp | hp
            · exact hsm.out p hp
            · rw [List.mem_singleton.1 hp]; exact hsc.out), by rw [List.length_append, List.length_singleton]; omega⟩
          case measure => simp [intOf]
      · have hpr : pRows s.data.toList = (l, at_, err) := by
          rw [← hrd.out]
          by_cases hn : n = 0
          · rw [hn]; rfl
          · exact rdL_bad (fun h => hgo ⟨hn, h⟩)
        have hE : pErr s.data.toList = dEnd s.size at_ err := by unfold pErr; rw [hpr]; rfl
        have EN := Lib.hid fun (W : World) (h : RdAt 149 W (w.heap.size + 1) s at_ err) => end_any h hs hat
        have hlen : Hid (l.length ≤ 9223372036854775807) := by rw [Hid]; omega
        have hpa : parse s.data.toList = if dEnd s.size at_ err = 0 then (if chkB (pSeq s.data.toList) l = 0 then (l, pSeq s.data.toList, 0) else ([], 0, chkB (pSeq s.data.toList) l)) else ([], 0, dEnd s.size at_ err) := by unfold parse; rw [hE, hpr]
        replace hpa := Lib.hid hpa
        obtain ⟨A, c, hv, RA⟩ := crow_of_owns P.out.own
        subst hv
        have CK := Lib.hid fun (k : Nat) => HC.out (wr.drewN k) A c l RA hlen.out hsm.out hq
        have PD := Lib.hid (ps_drewN P.out)
        have hor : n = 0 ∨ (¬ n = 0 ∧ (err == 0) = false) := by
          by_cases hn : n = 0
          · exact .inl hn
          · exact .inr ⟨hn, by simpa using fun h => hgo ⟨hn, h⟩⟩
        clear hgo hrd hpr hE HC RA hle
        generalize dEnd s.size at_ err = E at EN hpa
        generalize hZ : chkB (pSeq s.data.toList) l = Z at CK hpa
        have KZ := Lib.hid hZ
        clear hZ
        by_cases e0 : E = 0
        · subst e0
          by_cases z0 : Z = 0
          · subst z0
            have HP : Hid (parse s.data.toList = (l, pSeq s.data.toList, 0)) := hpa.out.trans ((if_pos rfl).trans (if_pos rfl))
            clear hpa
            rcases hor with rfl | ⟨hn, he⟩
            all_goals
              go_wp2_with (first
                | (go_at_call 62; (with_reducible refine ER.out.mono ?_); rintro e w5 ⟨rfl, rfl⟩)
                | (go_at_call 64; (with_reducible refine (EN.out _ P.out.rd).mono ?_); rintro e w6 ⟨rfl, k, rfl⟩; have PK := Lib.hid (PD.out k); obtain ⟨c0, c1, c2⟩ := ps_cells PK.out; obtain ⟨k0, k1, k2⟩ := ps_box PK.out)
                | (go_at_call 65; (with_reducible refine (CK.out _).mono ?_); rintro e w7 ⟨rfl, b7⟩; have P7 := Lib.hid (ps_below PK.out b7); obtain ⟨c3, c4, c5⟩ := ps_cells P7.out; obtain ⟨k3, k4, k5⟩ := ps_box P7.out; clear b7))
              exact ret_batch rfl rfl rfl rfl (row_sets2 P7.out.box _ _) ⟨.slice A l.length c, by rw [HP.out], by rw [HP.out]; exact own_sets P7.out, below_sets2 P7.out.below⟩
          · have z1 : (Z == 0) = false := by simpa using z0
            have z2 : (Z != 0) = true := by simp [bne, z1]
            have HP : Hid (parse s.data.toList = ([], 0, Z)) := hpa.out.trans ((if_pos rfl).trans (if_neg z0))
            clear z0 hpa
            rcases hor with rfl | ⟨hn, he⟩
            all_goals
              go_wp2_with (first
                | (go_at_call 62; (with_reducible refine ER.out.mono ?_); rintro e w5 ⟨rfl, rfl⟩)
                | (go_at_call 64; (with_reducible refine (EN.out _ P.out.rd).mono ?_); rintro e w6 ⟨rfl, k, rfl⟩; have PK := Lib.hid (PD.out k); obtain ⟨c0, c1, c2⟩ := ps_cells PK.out; obtain ⟨k0, k1, k2⟩ := ps_box PK.out)
                | (go_at_call 65; (with_reducible refine (CK.out _).mono ?_); rintro e w7 ⟨rfl, b7⟩; have P7 := Lib.hid (ps_below PK.out b7); obtain ⟨c3, c4, c5⟩ := ps_cells P7.out; obtain ⟨k3, k4, k5⟩ := ps_box P7.out; clear b7))
              exact ret_batch rfl rfl rfl rfl (row_sets2 P7.out.box _ _) ⟨.slice none 0 0, by rw [HP.out]; rfl, by rw [HP.out]; exact World.ownsRow_nil _ _ _ _, below_sets2 P7.out.below⟩
        · have z1 : (E == 0) = false := by simpa using e0
          have z2 : (E != 0) = true := by simp [bne, z1]
          have HP : Hid (parse s.data.toList = ([], 0, E)) := hpa.out.trans (if_neg e0)
          clear e0 hpa
          rcases hor with rfl | ⟨hn, he⟩
          all_goals
            go_wp2_with (first
              | (go_at_call 62; (with_reducible refine ER.out.mono ?_); rintro e w5 ⟨rfl, rfl⟩)
              | (go_at_call 64; (with_reducible refine (EN.out _ P.out.rd).mono ?_); rintro e w6 ⟨rfl, k, rfl⟩; have PK := Lib.hid (PD.out k); obtain ⟨c0, c1, c2⟩ := ps_cells PK.out; obtain ⟨k0, k1, k2⟩ := ps_box PK.out))
            exact ret_batch rfl rfl rfl rfl (row_sets2 PK.out.box _ _) ⟨.slice none 0 0, by rw [HP.out]; rfl, by rw [HP.out]; exact World.ownsRow_nil _ _ _ _, below_sets2 PK.out.below⟩
end Go.Proofs.YtdkgieaanpfhcaaGreatDoor.Ba
