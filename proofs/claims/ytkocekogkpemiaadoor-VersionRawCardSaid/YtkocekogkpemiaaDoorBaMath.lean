/-
  Batches as bytes, and back: the mathematics. Conditions: as each theorem states.
-/
import Derived.Test.YtkocekogkpemiaaDoorBaR
namespace Go.Proofs.YtkocekogkpemiaaDoor.Ba
open Go.Proofs.YtkocekogkpemiaaDoor
open Vi

structure Chg where
  kind : Int
  key : ByteArray
  value : ByteArray
instance : Inhabited Chg := ⟨⟨0, ⟨#[]⟩, ⟨#[]⟩⟩⟩
def chk1 (c : Chg) : Int :=
  if ¬ (c.kind = 1 ∨ c.kind = 2) then 11 else if c.key.size = 0 ∨ 200 < c.key.size then 19 else if 4096 < c.value.size ∨ (c.kind = 2 ∧ c.value.size ≠ 0) then 5 else 0
theorem chk1_ok {c : Chg} : chk1 c = 0 ↔ (c.kind = 1 ∨ c.kind = 2) ∧ 0 < c.key.size ∧ c.key.size ≤ 200 ∧ c.value.size ≤ 4096 ∧ (c.kind ≠ 2 ∨ c.value.size = 0) := by
  unfold chk1; split
  · constructor
    · intro h; simp at h
    · intro h; omega
  · split
    · constructor
      · intro h; simp at h
      · intro h; omega
    · split
      · constructor
        · intro h; simp at h
        · intro h; omega
      · constructor
        · intro h; omega
        · intro h; rfl
theorem eta3 {α : Type} {p : α × Nat × Int} (h : p.2.2 = 0) : p = (p.1, p.2.1, 0) := by
  obtain ⟨a, b, c⟩ := p
  simp at h ⊢; exact h
def chkGo : List Chg → Int
  | [] => 0
  | c :: l => if chk1 c = 0 then chkGo l else chk1 c
theorem chkGo_ok {l : List Chg} : chkGo l = 0 ↔ ∀ c ∈ l, chk1 c = 0 := by
  induction l with
  | nil => simp [chkGo]
  | cons c l ih =>
    unfold chkGo
    split
    · rename_i h; simp [h, ih]
    · rename_i h; simp [h]
def chkB (seq : Nat) (l : List Chg) : Int :=
  if 2000 < l.length then 6 else if chkGo l = 0 then (if 72057594037927935 < seq ∨ 72057594037927935 - seq + 1 < l.length then 8 else 0) else chkGo l
theorem chkB_ok {seq : Nat} {l : List Chg} : chkB seq l = 0 ↔ l.length ≤ 2000 ∧ (∀ c ∈ l, chk1 c = 0) ∧ seq ≤ 72057594037927935 ∧ l.length ≤ 72057594037927935 - seq + 1 := by
  unfold chkB; split
  · simp; omega
  · split
    · rename_i h; rw [chkGo_ok] at h
      split
      · constructor
        · intro h'; simp at h'
        · rintro ⟨_, _, h1, h2⟩; omega
      · exact ⟨fun _ => ⟨by omega, h, by omega, by omega⟩, fun _ => rfl⟩
    · rename_i h
      constructor
      · intro h'; exact absurd h' h
      · rintro ⟨_, h1, _⟩; exact absurd (chkGo_ok.2 h1) h
def vtx (s : ByteArray) : List UInt8 := vnum s.size ++ s.data.toList
def cb (c : Chg) : List UInt8 := UInt8.ofNat c.kind.toNat :: (vtx c.key ++ (if c.kind = 1 then vtx c.value else []))
def bb (seq : Nat) (l : List Chg) : List UInt8 := little 8 seq ++ (vnum l.length ++ l.flatMap cb)
theorem vtx_len {s : ByteArray} (h : s.size ≤ 1000000) : (vtx s).length ≤ s.size + 10 := by
  unfold vtx; rw [List.length_append, size_len]; have := vnum_len10 (n := s.size) (by omega); omega
theorem cb_len {c : Chg} (h : chk1 c = 0) : (cb c).length ≤ 4317 := by
  obtain ⟨_, _, h1, h2, _⟩ := chk1_ok.1 h
  have a := vtx_len (s := c.key) (by omega)
  have b := vtx_len (s := c.value) (by omega)
  unfold cb
  rw [List.length_cons, List.length_append]
  split <;> simp <;> omega
theorem flat_len : ∀ {l : List Chg}, (∀ c ∈ l, chk1 c = 0) → (l.flatMap cb).length ≤ 4317 * l.length
  | [], _ => by simp
  | c :: l, h => by
    have h1 := cb_len (h c (by simp))
    have h2 := flat_len (l := l) fun x hx => h x (List.mem_cons_of_mem _ hx)
    rw [List.flatMap_cons, List.length_append, List.length_cons]; omega
theorem bb_len {seq : Nat} {l : List Chg} (h : ∀ c ∈ l, chk1 c = 0) (hl : l.length ≤ 2000) : (bb seq l).length ≤ 18 + 4317 * l.length := by
  have h1 := flat_len h
  have h2 := vnum_len10 (n := l.length) (by omega)
  unfold bb; rw [List.length_append, List.length_append, little_len]; omega
/-! what bytes are -/
def rdC (L : List UInt8) (at_ : Nat) (err : Int) : Chg × Nat × Int :=
  match (dTake L at_ err 1).1 with
  | [] => (⟨0, ⟨#[]⟩, ⟨#[]⟩⟩, (dTake L at_ err 1).2)
  | c :: _ =>
    let e1 := if c.toNat = 1 ∨ c.toNat = 2 then (dTake L at_ err 1).2 else dFail (dTake L at_ err 1).2.1 (dTake L at_ err 1).2.2 11
    let t := dText L e1.1 e1.2 200
    if c.toNat = 1 then (⟨1, bs t.1, bs (dText L t.2.1 t.2.2 4096).1⟩, (dText L t.2.1 t.2.2 4096).2) else (⟨c.toNat, bs t.1, ⟨#[]⟩⟩, t.2)
def rdL (L : List UInt8) : Nat → Nat → Int → List Chg → List Chg × Nat × Int
  | 0, at_, err, acc => (acc, at_, err)
  | n + 1, at_, err, acc => if err = 0 then rdL L n (rdC L at_ err).2.1 (rdC L at_ err).2.2 (acc ++ [(rdC L at_ err).1]) else (acc, at_, err)
theorem rdL_bad {L : List UInt8} {n at_ : Nat} {err : Int} {acc : List Chg} (h : ¬ err = 0) : rdL L n at_ err acc = (acc, at_, err) := by
  cases n with
  | zero => rfl
  | succ n => rw [rdL, if_neg h]
theorem rdL_on {L : List UInt8} {n at_ : Nat} {acc : List Chg} : rdL L (n + 1) at_ 0 acc = rdL L n (rdC L at_ 0).2.1 (rdC L at_ 0).2.2 (acc ++ [(rdC L at_ 0).1]) := by rw [rdL, if_pos rfl]
/-- where the reader is ahead of the changes -/
def pSeq (L : List UInt8) : Nat := big (dTake L 0 0 8).1
def pNum (L : List UInt8) : Nat × Nat × Int := dNum L (dTake L 0 0 8).2.1 (dTake L 0 0 8).2.2
def pAt (L : List UInt8) : Nat × Int := if 2000 < (pNum L).1 then dFail (pNum L).2.1 (pNum L).2.2 6 else (pNum L).2
def pRows (L : List UInt8) : List Chg × Nat × Int := rdL L (pNum L).1 (pAt L).1 (pAt L).2 []
def pErr (L : List UInt8) : Int := dEnd L.length (pRows L).2.1 (pRows L).2.2
def parse (L : List UInt8) : List Chg × Nat × Int :=
  if pErr L = 0 then (if chkB (pSeq L) (pRows L).1 = 0 then ((pRows L).1, pSeq L, 0) else ([], 0, chkB (pSeq L) (pRows L).1)) else ([], 0, pErr L)
/-! places in the middle -/
theorem drop_mid (A C : List UInt8) : (A ++ C).drop A.length = C := by simp
theorem dNum_mid (A C : List UInt8) (n : Nat) (h : n < 18446744073709551616) : dNum (A ++ (vnum n ++ C)) A.length 0 = (n, A.length + (vnum n).length, 0) := by
  rw [dNum_ok, drop_mid, rnum_vnum h]; rfl
theorem dTake_mid (A M C : List UInt8) : dTake (A ++ (M ++ C)) A.length 0 (M.length : Int) = (M, A.length + M.length, 0) := by
  rw [dTake_ok (by omega) (by simp; omega), drop_mid]; simp
theorem dText_mid (A M C : List UInt8) (most : Int) (hm : (M.length : Int) ≤ most) (h : M.length < 18446744073709551616) : dText (A ++ ((vnum M.length ++ M) ++ C)) A.length 0 most = (M, A.length + (vnum M.length ++ M).length, 0) := by
  rw [dText_eq, List.append_assoc, dNum_mid A (M ++ C) M.length h]
  rw [if_neg (by show ¬ max most 0 < (M.length : Int); omega)]
  have := dTake_mid (A ++ vnum M.length) M C
  rw [List.length_append, List.append_assoc] at this
  rw [this]; simp [Nat.add_assoc]
theorem dText_vtx (A C : List UInt8) (s : ByteArray) (most : Int) (hm : (s.size : Int) ≤ most) (h : s.size ≤ 1000000) : dText (A ++ (vtx s ++ C)) A.length 0 most = (s.data.toList, A.length + (vtx s).length, 0) := by
  have := dText_mid A s.data.toList C most (by rw [size_len]; exact hm) (by rw [size_len]; omega)
  rw [size_len] at this
  exact this
theorem empty_of {s : ByteArray} (h : s.size = 0) : s = ⟨#[]⟩ := by
  cases s with
  | mk d =>
    congr
    exact Array.eq_empty_of_size_eq_zero h
theorem rdC_mid (A C : List UInt8) (c : Chg) (h : chk1 c = 0) : rdC (A ++ (cb c ++ C)) A.length 0 = (c, A.length + (cb c).length, 0) := by
  obtain ⟨hk, _, h1, h2, h3⟩ := chk1_ok.1 h
  obtain ⟨k, key, value⟩ := c
  simp only at hk h1 h2 h3
  have ht : dTake (A ++ (cb ⟨k, key, value⟩ ++ C)) A.length 0 1 = ([UInt8.ofNat k.toNat], A.length + 1, 0) := by
    have := dTake_mid A [UInt8.ofNat k.toNat] (vtx key ++ (if k = 1 then vtx value else []) ++ C)
    simpa [cb] using this
  have hkk : (UInt8.ofNat k.toNat).toNat = k.toNat := toNat_of (by omega)
  have e1 : A ++ (cb ⟨k, key, value⟩ ++ C) = (A ++ [UInt8.ofNat k.toNat]) ++ (vtx key ++ ((if k = 1 then vtx value else []) ++ C)) := by simp [cb]
  have hx := dText_vtx (A ++ [UInt8.ofNat k.toNat]) ((if k = 1 then vtx value else []) ++ C) key 200 (by omega) (by omega)
  rw [List.length_append] at hx
  unfold rdC
  rw [ht]
  simp only [hkk]
  rw [if_pos (show k.toNat = 1 ∨ k.toNat = 2 by omega)]
  simp only [e1]
  rw [show A.length + 1 = A.length + [UInt8.ofNat k.toNat].length from rfl, hx]
  by_cases hk1 : k = 1
  · subst hk1
    simp only [if_true]
    rw [if_pos (by rfl)]
    have hy := dText_vtx ((A ++ [UInt8.ofNat (Int.toNat 1)]) ++ vtx key) C value 4096 (by omega) (by omega)
    rw [List.length_append, List.length_append, List.append_assoc (A ++ [UInt8.ofNat (Int.toNat 1)])] at hy
    rw [hy, bs_of, bs_of]
    simp [cb, Nat.add_assoc, Nat.add_comm, Nat.add_left_comm]
  · rw [if_neg (by omega), bs_of]
    have := empty_of (s := value) (by omega)
    subst this
    have e : ((k.toNat : Nat) : Int) = k := by omega
    rw [e]
    simp [cb, hk1, Nat.add_assoc, Nat.add_comm]
theorem rdL_mid (C : List UInt8) : ∀ (l : List Chg) (A : List UInt8) (acc : List Chg), (∀ c ∈ l, chk1 c = 0) → rdL (A ++ (l.flatMap cb ++ C)) l.length A.length 0 acc = (acc ++ l, A.length + (l.flatMap cb).length, 0)
  | [], A, acc, _ => by simp [rdL]
  | c :: l, A, acc, h => by
    have h1 := rdC_mid A (l.flatMap cb ++ C) c (h c (by simp))
    have h2 := rdL_mid C l (A ++ cb c) (acc ++ [c]) fun x hx => h x (List.mem_cons_of_mem _ hx)
    rw [List.length_cons, rdL_on, List.flatMap_cons, List.append_assoc (cb c), h1]
    simp only
    rw [List.length_append, List.append_assoc A] at h2
    rw [h2]
    simp [Nat.add_assoc]
theorem parse_bb {seq : Nat} {l : List Chg} (h : chkB seq l = 0) : parse (bb seq l) = (l, seq, 0) := by
  obtain ⟨h1, h2, h3, h4⟩ := chkB_ok.1 h
  have hw : dTake (bb seq l) 0 0 8 = (little 8 seq, 8, 0) := by
    have := dTake_mid [] (little 8 seq) (vnum l.length ++ l.flatMap cb)
    rw [little_len] at this
    simpa [bb] using this
  have hs : pSeq (bb seq l) = seq := by unfold pSeq; rw [hw]; exact big_little 8 seq (by omega)
  have hn : pNum (bb seq l) = (l.length, 8 + (vnum l.length).length, 0) := by
    unfold pNum; rw [hw]
    have := dNum_mid (little 8 seq) (l.flatMap cb) l.length (by omega)
    rw [little_len] at this
    exact this
  have ha : pAt (bb seq l) = (8 + (vnum l.length).length, 0) := by unfold pAt; rw [hn, if_neg (by simp; omega)]
  have hr : pRows (bb seq l) = (l, (bb seq l).length, 0) := by
    unfold pRows; rw [hn, ha]
    have := rdL_mid [] l (little 8 seq ++ vnum l.length) [] h2
    simp only [List.append_nil, List.nil_append, List.length_append, little_len, List.append_assoc] at this
    unfold bb
    rw [this]
    simp [little_len, Nat.add_assoc]
  have he : pErr (bb seq l) = 0 := by unfold pErr; rw [hr]; exact dEnd_ok (by simp)
  unfold parse
  rw [if_pos he, hs, hr, if_pos h]
/-! what is read would be written so -/
theorem dTake_back {L x : List UInt8} {at_ at2 : Nat} {n : Nat} (h : dTake L at_ 0 n = (x, at2, 0)) (ha : at_ ≤ L.length) : L.take at2 = L.take at_ ++ x ∧ x.length = n ∧ at2 ≤ L.length := by
  by_cases hc : (n : Int) ≤ (L.length : Int) - at_
  · rw [dTake_ok (by omega) hc] at h
    injection h with e1 e2
    injection e2 with e2 _
    subst e1 e2
    refine ⟨by rw [List.take_add], ?_, by omega⟩
    simp; omega
  · rw [dTake_short (.inr (by omega))] at h
    simp at h
theorem dNum_back {L : List UInt8} {at_ at2 : Nat} {n : Nat} (h : dNum L at_ 0 = (n, at2, 0)) : L.take at2 = L.take at_ ++ vnum n := by
  rw [dNum_ok] at h
  injection h with e1 e2
  injection e2 with e2 e3
  have e3 : (rnum (L.drop at_)).2.2 = 0 := by omega
  have := vnum_rnum (l := L.drop at_) (a := n) (k := (rnum (L.drop at_)).2.1) (by rw [← e1, ← e3])
  rw [this, ← e2, List.take_add]
theorem dText_bad {L : List UInt8} {at_ : Nat} {err most : Int} (h : err ≠ 0) : dText L at_ err most = ([], at_, err) := by
  rw [dText_eq, dNum_bad h, if_neg (by simp; omega), dTake_bad h]
theorem dText_back {L x : List UInt8} {at_ at2 : Nat} {most : Int} (h : dText L at_ 0 most = (x, at2, 0)) (ha : at_ ≤ L.length) : L.take at2 = L.take at_ ++ (vnum x.length ++ x) ∧ at2 ≤ L.length := by
  rw [dText_eq] at h
  have h2 := dNum_at (l := L) (at_ := at_) (err := 0) ha
  have h3 := dNum_back (L := L) (at_ := at_) (n := (dNum L at_ 0).1) (at2 := (dNum L at_ 0).2.1)
  generalize hr : dNum L at_ 0 = r at h h2 h3
  obtain ⟨n, a, e⟩ := r
  simp only at h h2 h3
  split at h
  · injection h with h4 h5
    by_cases he : e = 0
    · rw [he, dFail_ok] at h5; simp at h5
    · rw [dFail_bad he] at h5; simp at h5; exact absurd h5.2 he
  · by_cases he : e = 0
    · subst he
      obtain ⟨b1, b2, b3⟩ := dTake_back h h2
      rw [b1, h3 rfl, b2, List.append_assoc]
      exact ⟨rfl, b3⟩
    · rw [dTake_bad he] at h; simp at h; exact absurd h.2.2 he
theorem rdC_err {L : List UInt8} {at_ : Nat} {c : Chg} {at2 : Nat} (h : rdC L at_ 0 = (c, at2, 0)) (ha : at_ ≤ L.length) : L.take at2 = L.take at_ ++ cb c ∧ at2 ≤ L.length := by
  unfold rdC at h
  have hb := dTake_back (L := L) (at_ := at_) (n := 1) (x := (dTake L at_ 0 1).1) (at2 := (dTake L at_ 0 1).2.1)
  have hd : (dTake L at_ 0 1).1 = [] → (dTake L at_ 0 1).2.2 ≠ 0 := by
    intro h1 h2
    by_cases hc : (1 : Int) ≤ (L.length : Int) - at_
    · rw [dTake_ok (by omega) hc] at h1; simp at h1; omega
    · rw [dTake_short (.inr (by omega))] at h2; simp at h2
  generalize hr : dTake L at_ 0 1 = r at h hb hd
  obtain ⟨x, a, e⟩ := r
  simp only at h hb hd
  match x, h, hb, hd with
  | [], h, _, hd => simp at h; exact absurd h.2.2 (hd rfl)
  | k :: y, h, hb, _ =>
    simp only at h
    by_cases hk : k.toNat = 1 ∨ k.toNat = 2
    · rw [if_pos hk] at h
      by_cases he : e = 0
      · subst he
        have hb := hb (by simp) ha
        obtain ⟨b1, b2, b3⟩ := hb
        have hy : y = [] := by simpa using b2
        subst hy
        have ht := dText_back (L := L) (at_ := a) (most := 200) (x := (dText L a 0 200).1) (at2 := (dText L a 0 200).2.1)
        generalize hq : dText L a 0 200 = q at h ht
        obtain ⟨key, a2, e2⟩ := q
        simp only at h ht
        by_cases hk1 : k.toNat = 1
        · rw [if_pos hk1] at h
          by_cases he2 : e2 = 0
          · subst he2
            obtain ⟨t1, t2⟩ := ht rfl b3
            have hv := dText_back (L := L) (at_ := a2) (most := 4096) (x := (dText L a2 0 4096).1) (at2 := (dText L a2 0 4096).2.1)
            generalize hz : dText L a2 0 4096 = z at h hv
            obtain ⟨val, a3, e3⟩ := z
            simp only at h hv
            injection h with h1 h2
            injection h2 with h2 h3
            subst h1 h2 h3
            obtain ⟨v1, v2⟩ := hv rfl t2
            refine ⟨?_, v2⟩
            rw [v1, t1, b1]
            have e : UInt8.ofNat (Int.toNat 1) = k := by
              have e1 : UInt8.ofNat k.toNat = k := UInt8.ofNat_toNat
              rw [hk1] at e1; exact e1
            simp [cb, vtx, bs_size, bs_toList, ← e]
          · rw [dText_bad he2] at h
            simp at h; exact absurd h.2.2 he2
        · rw [if_neg hk1] at h
          injection h with h1 h2
          injection h2 with h2 h3
          subst h1 h2 h3
          obtain ⟨t1, t2⟩ := ht rfl b3
          refine ⟨?_, t2⟩
          rw [t1, b1]
          have e : ¬ ((k.toNat : Int) = 1) := by omega
          simp only [cb, if_neg e]
          simp [vtx, bs_size, bs_toList]
      · rw [dText_bad he] at h
        simp only at h
        split at h
        · rw [dText_bad he] at h; simp at h; exact absurd h.2.2 he
        · simp at h; exact absurd h.2.2 he
    · rw [if_neg hk] at h
      have hf : (dFail a e 11).2 ≠ 0 := by
        by_cases he : e = 0
        · subst he; rw [dFail_ok]; simp
        · rw [dFail_bad he]; exact he
      rw [dText_bad hf] at h
      simp only at h
      split at h
      · omega
      · simp at h; exact absurd h.2.2 hf
theorem rdL_back {L : List UInt8} : ∀ {n at_ at2 : Nat} {acc l : List Chg}, rdL L n at_ 0 acc = (l, at2, 0) → at_ ≤ L.length → ∃ m, l = acc ++ m ∧ m.length = n ∧ L.take at2 = L.take at_ ++ m.flatMap cb ∧ at2 ≤ L.length
  | 0, at_, at2, acc, l, h, ha => by
    simp [rdL] at h
    obtain ⟨rfl, rfl⟩ := h
    exact ⟨[], by simp, rfl, by simp, ha⟩
  | n + 1, at_, at2, acc, l, h, ha => by
    rw [rdL_on] at h
    generalize hr : rdC L at_ 0 = r at h
    obtain ⟨c, a, e⟩ := r
    simp only at h
    by_cases he : e = 0
    · subst he
      obtain ⟨c1, c2⟩ := rdC_err hr ha
      obtain ⟨m, m1, m2, m3, m4⟩ := rdL_back h c2
      refine ⟨c :: m, by rw [m1]; simp, by simp [m2], ?_, m4⟩
      rw [m3, c1]; simp
    · rw [rdL_bad he] at h
      simp at h; exact absurd h.2.2 he
theorem bb_parse {L : List UInt8} {seq : Nat} {l : List Chg} (h : parse L = (l, seq, 0)) : bb seq l = L ∧ chkB seq l = 0 := by
  unfold parse at h
  split at h
  · rename_i hp
    split at h
    · rename_i hc
      simp at h
      obtain ⟨rfl, rfl⟩ := h
      refine ⟨?_, hc⟩
      unfold pErr at hp
      have hr0 : (pRows L).2.2 = 0 := by
        refine Classical.byContradiction fun hne => ?_
        rw [dEnd_bad hne] at hp; exact hne hp
      have ha0 : (pAt L).2 = 0 := by
        refine Classical.byContradiction fun hne => ?_
        unfold pRows at hr0; rw [rdL_bad hne] at hr0; exact hne hr0
      have hn0 : ¬ 2000 < (pNum L).1 ∧ (pNum L).2.2 = 0 := by
        unfold pAt at ha0
        split at ha0
        · by_cases he : (pNum L).2.2 = 0
          · rw [he, dFail_ok] at ha0; simp at ha0
          · rw [dFail_bad he] at ha0; exact absurd ha0 he
        · rename_i h1; exact ⟨h1, ha0⟩
      have hw0 : (dTake L 0 0 8).2.2 = 0 := by
        refine Classical.byContradiction fun hne => ?_
        have := hn0.2
        unfold pNum at this; rw [dNum_bad hne] at this; exact hne this
      obtain ⟨w1, w2, w3⟩ := dTake_back (L := L) (at_ := 0) (n := 8) (x := (dTake L 0 0 8).1) (at2 := (dTake L 0 0 8).2.1) (eta3 hw0) (by omega)
      have n1 := dNum_back (L := L) (at_ := (dTake L 0 0 8).2.1) (n := (pNum L).1) (at2 := (pNum L).2.1) (by
        have e := eta3 hn0.2
        unfold pNum at e ⊢
        rw [hw0] at e ⊢
        exact e)
      have n2 : (pNum L).2.1 ≤ L.length := dNum_at w3
      have ea : pAt L = (pNum L).2 := by unfold pAt; rw [if_neg hn0.1]
      obtain ⟨m, m1, m2, m3, m4⟩ := rdL_back (L := L) (n := (pNum L).1) (at_ := (pNum L).2.1) (acc := []) (l := (pRows L).1) (at2 := (pRows L).2.1) (by
        have e := eta3 hr0
        unfold pRows at e ⊢
        rw [ea, hn0.2] at e ⊢
        exact e) n2
      have hend : L.length ≤ (pRows L).2.1 := by
        rw [hr0] at hp
        refine Classical.byContradiction fun hne => ?_
        rw [dEnd_form (by omega)] at hp; simp at hp
      rw [List.take_of_length_le hend, n1, w1] at m3
      simp at m1
      unfold bb pSeq
      rw [m1, m2]
      have e8 : little 8 (big (dTake L 0 0 8).1) = (dTake L 0 0 8).1 := by
        have := little_big (dTake L 0 0 8).1
        rw [w2] at this; exact this
      rw [e8]
      have m5 := m3.symm
      simp only [List.take_zero, List.nil_append, List.append_assoc] at m5
      exact m5
    · simp at h
      rename_i hc
      exact absurd h.2.2 hc
  · rename_i hp
    simp at h; exact absurd h.2.2 hp
theorem parse_bad {L : List UInt8} (h : (parse L).2.2 ≠ 0) : (parse L).1 = [] ∧ (parse L).2.1 = 0 := by
  unfold parse at h ⊢
  split
  · split
    · rename_i h1 h2; rw [if_pos h1, if_pos h2] at h; simp at h
    · exact ⟨rfl, rfl⟩
  · exact ⟨rfl, rfl⟩
end Go.Proofs.YtkocekogkpemiaaDoor.Ba
