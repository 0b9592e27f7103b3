/-
  Edits as bytes, and back: what is written is read as it was; what is read would be written so. Conditions: as each theorem states.
-/
import Derived.Test.YtkocekogkpemiaaDoorEdMath
namespace Go.Proofs.YtkocekogkpemiaaDoor.Ed
open Go.Proofs.YtkocekogkpemiaaDoor
open Vi Ba

def pt (A : List UInt8) : Pt := (A.length, 0)
theorem nx_mid {L A C : List UInt8} {n : Nat} (h : n < 18446744073709551616) (hL : L = A ++ (vnum n ++ C)) : nx L (pt A) = (n, pt (A ++ vnum n)) := by
  subst hL; unfold nx pt; rw [dNum_mid A C n h, List.length_append]
theorem rdN_mid {L A C : List UInt8} {n : Nat} (h : n ≤ 200) (hL : L = A ++ (vnum n ++ C)) : rdN L (pt A) = (n, pt (A ++ vnum n)) := by
  have := nx_mid (L := L) (A := A) (C := C) (n := n) (by omega) hL
  unfold nx at this; unfold rdN; rw [this, if_neg (by simp; omega)]
theorem rdV_mid {L A C : List UInt8} {n : Nat} (h : n < 4) (hL : L = A ++ (vnum n ++ C)) : rdV L (pt A) = (n, pt (A ++ vnum n)) := by
  have := nx_mid (L := L) (A := A) (C := C) (n := n) (by omega) hL
  unfold nx at this; unfold rdV; rw [this, if_neg (by simp; omega)]
theorem tx_mid {L A C : List UInt8} {s : ByteArray} (h : s.size ≤ 200) (hL : L = A ++ (vtx s ++ C)) : tx L (pt A) = (s.data.toList, pt (A ++ vtx s)) := by
  subst hL; unfold tx pt; rw [dText_vtx A C s 200 (by omega) (by omega), List.length_append]
theorem vn_cons (n : Nat) (l : List Nat) : vn (n :: l) = vnum n ++ vn l := by unfold vn; rw [List.flatMap_cons]
theorem vn_nil : vn [] = [] := rfl
theorem rdA_mid {L A C : List UInt8} {a : Fil} (ho : a.ok) (h : chkA a = 0) (hL : L = A ++ (ab a ++ C)) : rdA L (pt A) = (a, pt (A ++ ab a)) := by
  obtain ⟨hv, hl, hm, _, _⟩ := chkA_ok.1 h
  obtain ⟨v, n, s, c, l, m⟩ := a
  obtain ⟨_, _, o1, o2, o3, _, _⟩ := ho
  simp only at hv hl hm o1 o2 o3
  have e1 := rdV_mid (L := L) (A := A) (n := v.toNat) (C := vnum n ++ vnum s ++ vnum c ++ vtx l ++ vtx m ++ C) (by have := hv.2; omega) (by rw [hL]; simp [ab, vn_cons, vn_nil])
  have e2 := nx_mid (L := L) (A := A ++ vnum v.toNat) (n := n) (C := vnum s ++ vnum c ++ vtx l ++ vtx m ++ C) o1 (by rw [hL]; simp [ab, vn_cons, vn_nil])
  have e3 := nx_mid (L := L) (A := A ++ vnum v.toNat ++ vnum n) (n := s) (C := vnum c ++ vtx l ++ vtx m ++ C) o2 (by rw [hL]; simp [ab, vn_cons, vn_nil])
  have e4 := nx_mid (L := L) (A := A ++ vnum v.toNat ++ vnum n ++ vnum s) (n := c) (C := vtx l ++ vtx m ++ C) o3 (by rw [hL]; simp [ab, vn_cons, vn_nil])
  have e5 := tx_mid (L := L) (A := A ++ vnum v.toNat ++ vnum n ++ vnum s ++ vnum c) (s := l) (C := vtx m ++ C) hl.2 (by rw [hL]; simp [ab, vn_cons, vn_nil])
  have e6 := tx_mid (L := L) (A := A ++ vnum v.toNat ++ vnum n ++ vnum s ++ vnum c ++ vtx l) (s := m) (C := C) hm.2 (by rw [hL]; simp [ab, vn_cons, vn_nil])
  unfold rdA rdF f5 f4 f3 f2 f1
  rw [e1]
  simp only [e2, e3, e4, e5, e6, bs_of]
  unfold mkF
  have ev : ((v.toNat : Nat) : Int) = v := by have := hv.1; omega
  simp [ev, ab, vn_cons, vn_nil, pt]
theorem rdG_mid {L A C : List UInt8} {g : Gon} (ho : g.ok) (h : lvOk g.level) (hL : L = A ++ (gb g ++ C)) : rdG L (pt A) = (g, pt (A ++ gb g)) := by
  obtain ⟨v, n⟩ := g
  obtain ⟨_, _, o1⟩ := ho
  simp only at h o1
  have e1 := rdV_mid (L := L) (A := A) (n := v.toNat) (C := vnum n ++ C) (by have := h.2; omega) (by rw [hL]; simp [gb, vn_cons, vn_nil])
  have e2 := nx_mid (L := L) (A := A ++ vnum v.toNat) (n := n) (C := C) o1 (by rw [hL]; simp [gb, vn_cons, vn_nil])
  unfold rdG
  rw [e1]
  simp only [e2]
  have ev : ((v.toNat : Nat) : Int) = v := by have := h.1; omega
  simp [ev, gb, vn_cons, vn_nil, pt]
theorem rdAs_mid {L C : List UInt8} : ∀ (l : List Fil) (A : List UInt8) (acc : List Fil), (∀ a ∈ l, a.ok) → (∀ a ∈ l, chkA a = 0) → L = A ++ (l.flatMap ab ++ C) → rdAs L l.length (pt A) acc = (acc ++ l, pt (A ++ l.flatMap ab))
  | [], A, acc, _, _, _ => by simp [rdAs]
  | a :: l, A, acc, ho, h, hL => by
    have h1 := rdA_mid (L := L) (A := A) (C := l.flatMap ab ++ C) (ho a (by simp)) (h a (by simp)) (by rw [hL]; simp)
    have h2 := rdAs_mid (L := L) (C := C) l (A ++ ab a) (acc ++ [a]) (fun x hx => ho x (List.mem_cons_of_mem _ hx)) (fun x hx => h x (List.mem_cons_of_mem _ hx)) (by rw [hL]; simp)
    rw [List.length_cons, rdAs, h1]
    simp only
    rw [h2]; simp
theorem rdGs_mid {L C : List UInt8} : ∀ (l : List Gon) (A : List UInt8) (acc : List Gon), (∀ a ∈ l, a.ok) → (∀ a ∈ l, lvOk a.level) → L = A ++ (l.flatMap gb ++ C) → rdGs L l.length (pt A) acc = (acc ++ l, pt (A ++ l.flatMap gb))
  | [], A, acc, _, _, _ => by simp [rdGs]
  | a :: l, A, acc, ho, h, hL => by
    have h1 := rdG_mid (L := L) (A := A) (C := l.flatMap gb ++ C) (ho a (by simp)) (h a (by simp)) (by rw [hL]; simp)
    have h2 := rdGs_mid (L := L) (C := C) l (A ++ gb a) (acc ++ [a]) (fun x hx => ho x (List.mem_cons_of_mem _ hx)) (fun x hx => h x (List.mem_cons_of_mem _ hx)) (by rw [hL]; simp)
    rw [List.length_cons, rdGs, h1]
    simp only
    rw [h2]; simp
theorem parse_eb {e : Edt} (ho : e.ok) (h : chkE e = 0) : parse (eb e) = (e, 0) := by
  obtain ⟨k1, k2, k3, k4⟩ := chkE_ok.1 h
  obtain ⟨log, next, seq, come, go⟩ := e
  obtain ⟨o1, o2, o3, o4, o5⟩ := ho
  simp only at *
  generalize hL : eb ⟨log, next, seq, come, go⟩ = L
  have hL' : L = vnum log ++ (vnum next ++ (vnum seq ++ (vnum come.length ++ (come.flatMap ab ++ (vnum go.length ++ (go.flatMap gb ++ [])))))) := by rw [← hL]; simp [eb, vn_cons, vn_nil]
  have e1 := nx_mid (L := L) (A := []) (n := log) o1 (by rw [List.nil_append]; exact hL')
  have e2 := nx_mid (L := L) (A := [] ++ vnum log) (n := next) o2 (by rw [hL', List.nil_append])
  have e3 := nx_mid (L := L) (A := [] ++ vnum log ++ vnum next) (n := seq) (C := vnum come.length ++ (come.flatMap ab ++ (vnum go.length ++ (go.flatMap gb ++ [])))) o3 (by rw [hL']; simp)
  have e4 := rdN_mid (L := L) (A := [] ++ vnum log ++ vnum next ++ vnum seq) (n := come.length) (C := come.flatMap ab ++ (vnum go.length ++ (go.flatMap gb ++ []))) k1 (by rw [hL']; simp)
  have e5 := rdAs_mid (L := L) (C := vnum go.length ++ (go.flatMap gb ++ [])) come ([] ++ vnum log ++ vnum next ++ vnum seq ++ vnum come.length) [] o4 k3 (by rw [hL']; simp)
  have e6 := rdN_mid (L := L) (A := [] ++ vnum log ++ vnum next ++ vnum seq ++ vnum come.length ++ come.flatMap ab) (n := go.length) (C := go.flatMap gb ++ []) k2 (by rw [hL']; simp)
  have e7 := rdGs_mid (L := L) (C := []) go ([] ++ vnum log ++ vnum next ++ vnum seq ++ vnum come.length ++ come.flatMap ab ++ vnum go.length) [] o5 k4 (by rw [hL']; simp)
  have q0 : p0 = pt [] := rfl
  have q1 : p1 L = pt ([] ++ vnum log) := by unfold p1; rw [q0, e1]
  have q2 : p2 L = pt ([] ++ vnum log ++ vnum next) := by unfold p2; rw [q1, e2]
  have q3 : p3 L = pt ([] ++ vnum log ++ vnum next ++ vnum seq) := by unfold p3; rw [q2, e3]
  have qc : cN L = (come.length, pt ([] ++ vnum log ++ vnum next ++ vnum seq ++ vnum come.length)) := by unfold cN; rw [q3, e4]
  have qa : cA L = ([] ++ come, pt ([] ++ vnum log ++ vnum next ++ vnum seq ++ vnum come.length ++ come.flatMap ab)) := by unfold cA; rw [qc, e5]
  have qg : gN L = (go.length, pt ([] ++ vnum log ++ vnum next ++ vnum seq ++ vnum come.length ++ come.flatMap ab ++ vnum go.length)) := by unfold gN; rw [qa, e6]
  have qh : gA L = ([] ++ go, pt ([] ++ vnum log ++ vnum next ++ vnum seq ++ vnum come.length ++ come.flatMap ab ++ vnum go.length ++ go.flatMap gb)) := by unfold gA; rw [qg, e7]
  have hp : pEd L = ⟨log, next, seq, come, go⟩ := by
    unfold pEd; rw [q0, e1, q1, e2, q2, e3, qa, qh]; simp
  have he : pEr L = 0 := by
    unfold pEr; rw [qh]
    refine dEnd_ok ?_
    rw [hL']; simp [pt]
  unfold parse
  rw [if_pos he, hp, if_pos h]
/-! what is read would be written so -/
theorem nx_bad {L : List UInt8} {p : Pt} (h : p.2 ≠ 0) : nx L p = (0, p) := by unfold nx; rw [dNum_bad h]
theorem rdN_bad {L : List UInt8} {p : Pt} (h : p.2 ≠ 0) : rdN L p = (0, p) := by unfold rdN; rw [dNum_bad h, if_neg (by simp)]
theorem rdV_bad {L : List UInt8} {p : Pt} (h : p.2 ≠ 0) : rdV L p = (0, p) := by unfold rdV; rw [dNum_bad h, if_neg (by simp)]
theorem tx_bad {L : List UInt8} {p : Pt} (h : p.2 ≠ 0) : tx L p = ([], p) := by unfold tx; rw [dText_bad h]
/-- from p to q the bytes X were read -/
structure Got (L : List UInt8) (p q : Pt) (X : List UInt8) : Prop where
  good : p.2 = 0
  all : L.take q.1 = L.take p.1 ++ X
  le : q.1 ≤ L.length
theorem Got.trans {L : List UInt8} {p q r : Pt} {X Y : List UInt8} (h : Got L p q X) (h2 : Got L q r Y) : Got L p r (X ++ Y) := ⟨h.good, by rw [h2.all, h.all, List.append_assoc], h2.le⟩
theorem nx_back {L : List UInt8} {p : Pt} (hq : (nx L p).2.2 = 0) (hp : p.1 ≤ L.length) : Got L p (nx L p).2 (vnum (nx L p).1) := by
  have g : p.2 = 0 := by
    by_cases h : p.2 = 0
    · exact h
    · rw [nx_bad h] at hq; exact hq
  obtain ⟨a, e⟩ := p
  simp only at g
  subst g
  refine ⟨rfl, ?_, ?_⟩
  · exact dNum_back (L := L) (at_ := a) (n := (dNum L a 0).1) (at2 := (dNum L a 0).2.1) (eta3 hq)
  · unfold nx; exact dNum_at hp
theorem rdN_back {L : List UInt8} {p : Pt} (hq : (rdN L p).2.2 = 0) (hp : p.1 ≤ L.length) : Got L p (rdN L p).2 (vnum (rdN L p).1) ∧ (rdN L p).1 ≤ 200 := by
  have g : p.2 = 0 := by
    by_cases h : p.2 = 0
    · exact h
    · rw [rdN_bad h] at hq; exact hq
  by_cases h2 : 200 < (dNum L p.1 p.2).1
  · have e : rdN L p = (0, dFail (dNum L p.1 p.2).2.1 (dNum L p.1 p.2).2.2 6) := if_pos h2
    rw [e] at hq
    exfalso
    by_cases h3 : (dNum L p.1 p.2).2.2 = 0
    · rw [h3, dFail_ok] at hq; simp at hq
    · rw [dFail_bad h3] at hq; exact h3 hq
  · have e : rdN L p = nx L p := if_neg h2
    rw [e] at hq ⊢
    exact ⟨nx_back hq hp, by unfold nx; omega⟩
theorem rdV_back {L : List UInt8} {p : Pt} (hq : (rdV L p).2.2 = 0) (hp : p.1 ≤ L.length) : Got L p (rdV L p).2 (vnum (rdV L p).1) := by
  by_cases h2 : 4 ≤ (dNum L p.1 p.2).1
  · have e : rdV L p = (0, dFail (dNum L p.1 p.2).2.1 (dNum L p.1 p.2).2.2 21) := if_pos h2
    rw [e] at hq
    exfalso
    by_cases h3 : (dNum L p.1 p.2).2.2 = 0
    · rw [h3, dFail_ok] at hq; simp at hq
    · rw [dFail_bad h3] at hq; exact h3 hq
  · have e : rdV L p = nx L p := if_neg h2
    rw [e] at hq ⊢
    exact nx_back hq hp
theorem tx_back {L : List UInt8} {p : Pt} (hq : (tx L p).2.2 = 0) (hp : p.1 ≤ L.length) : Got L p (tx L p).2 (vtx (bs (tx L p).1)) := by
  have g : p.2 = 0 := by
    by_cases h : p.2 = 0
    · exact h
    · rw [tx_bad h] at hq; exact hq
  obtain ⟨a, e⟩ := p
  simp only at g
  subst g
  obtain ⟨h1, h2⟩ := dText_back (L := L) (at_ := a) (most := 200) (x := (dText L a 0 200).1) (at2 := (dText L a 0 200).2.1) (eta3 hq) hp
  refine ⟨rfl, ?_, h2⟩
  show L.take (dText L a 0 200).2.1 = L.take a ++ vtx (bs (dText L a 0 200).1)
  rw [h1]; unfold vtx; rw [bs_size, bs_toList]
theorem Got.back {L : List UInt8} {p q : Pt} {X : List UInt8} (h : Got L p q X) : p.2 = 0 := h.good
theorem nx_sticky {L : List UInt8} {p : Pt} (hq : (nx L p).2.2 = 0) : p.2 = 0 := by
  by_cases h : p.2 = 0
  · exact h
  · rw [nx_bad h] at hq; exact hq
theorem tx_sticky {L : List UInt8} {p : Pt} (hq : (tx L p).2.2 = 0) : p.2 = 0 := by
  by_cases h : p.2 = 0
  · exact h
  · rw [tx_bad h] at hq; exact hq
theorem rdV_sticky {L : List UInt8} {p : Pt} (hq : (rdV L p).2.2 = 0) : p.2 = 0 := by
  by_cases h : p.2 = 0
  · exact h
  · rw [rdV_bad h] at hq; exact hq
theorem rdN_sticky {L : List UInt8} {p : Pt} (hq : (rdN L p).2.2 = 0) : p.2 = 0 := by
  by_cases h : p.2 = 0
  · exact h
  · rw [rdN_bad h] at hq; exact hq
theorem rdA_sticky {L : List UInt8} {p : Pt} (hq : (rdA L p).2.2 = 0) : p.2 = 0 := by
  have h1 : (f5 L (rdV L p).2).2 = 0 := hq
  exact rdV_sticky (nx_sticky (nx_sticky (nx_sticky (tx_sticky (tx_sticky h1)))))
theorem rdG_sticky {L : List UInt8} {p : Pt} (hq : (rdG L p).2.2 = 0) : p.2 = 0 := rdV_sticky (nx_sticky hq)
theorem rdA_back {L : List UInt8} {p : Pt} (hq : (rdA L p).2.2 = 0) (hp : p.1 ≤ L.length) : Got L p (rdA L p).2 (ab (rdA L p).1) := by
  have h6 : (f5 L (rdV L p).2).2 = 0 := hq
  have h5 := tx_sticky h6
  have h4 := tx_sticky h5
  have h3 := nx_sticky h4
  have h2 := nx_sticky h3
  have h1 := nx_sticky h2
  have g1 := rdV_back h1 hp
  have g2 := nx_back h2 g1.le
  have g3 := nx_back h3 g2.le
  have g4 := nx_back h4 g3.le
  have g5 := tx_back h5 g4.le
  have g6 := tx_back h6 g5.le
  have := g1.trans (g2.trans (g3.trans (g4.trans (g5.trans g6))))
  have e : ab (rdA L p).1 = vnum (rdV L p).1 ++ (vnum (nx L (rdV L p).2).1 ++ (vnum (nx L (f1 L (rdV L p).2)).1 ++ (vnum (nx L (f2 L (rdV L p).2)).1 ++ (vtx (bs (tx L (f3 L (rdV L p).2)).1) ++ vtx (bs (tx L (f4 L (rdV L p).2)).1))))) := by
    simp [rdA, rdF, mkF, ab, vn_cons, vn_nil]
  rw [e]
  exact this
theorem rdG_back {L : List UInt8} {p : Pt} (hq : (rdG L p).2.2 = 0) (hp : p.1 ≤ L.length) : Got L p (rdG L p).2 (gb (rdG L p).1) := by
  have h2 : (nx L (rdV L p).2).2.2 = 0 := hq
  have h1 := nx_sticky h2
  have g1 := rdV_back h1 hp
  have g2 := nx_back h2 g1.le
  have := g1.trans g2
  have e : gb (rdG L p).1 = vnum (rdV L p).1 ++ vnum (nx L (rdV L p).2).1 := by simp [rdG, gb, vn_cons, vn_nil]
  rw [e]
  exact this
theorem rdAs_sticky {L : List UInt8} : ∀ {n : Nat} {p : Pt} {acc : List Fil}, (rdAs L n p acc).2.2 = 0 → p.2 = 0
  | 0, _, _, h => h
  | _ + 1, _, _, h => rdA_sticky (rdAs_sticky (by rw [rdAs] at h; exact h))
theorem rdGs_sticky {L : List UInt8} : ∀ {n : Nat} {p : Pt} {acc : List Gon}, (rdGs L n p acc).2.2 = 0 → p.2 = 0
  | 0, _, _, h => h
  | _ + 1, _, _, h => rdG_sticky (rdGs_sticky (by rw [rdGs] at h; exact h))
theorem rdAs_back {L : List UInt8} : ∀ {n : Nat} {p : Pt} {acc : List Fil}, (rdAs L n p acc).2.2 = 0 → p.1 ≤ L.length → ∃ l, (rdAs L n p acc).1 = acc ++ l ∧ l.length = n ∧ Got L p (rdAs L n p acc).2 (l.flatMap ab)
  | 0, p, acc, h, hp => ⟨[], by simp [rdAs], rfl, h, by simp [rdAs], hp⟩
  | n + 1, p, acc, h, hp => by
    rw [rdAs] at h ⊢
    have h1 := rdA_back (rdAs_sticky h) hp
    obtain ⟨l, e, hl, g⟩ := rdAs_back h h1.le
    exact ⟨(rdA L p).1 :: l, by rw [e]; simp, by simp [hl], by rw [List.flatMap_cons]; exact h1.trans g⟩
theorem rdGs_back {L : List UInt8} : ∀ {n : Nat} {p : Pt} {acc : List Gon}, (rdGs L n p acc).2.2 = 0 → p.1 ≤ L.length → ∃ l, (rdGs L n p acc).1 = acc ++ l ∧ l.length = n ∧ Got L p (rdGs L n p acc).2 (l.flatMap gb)
  | 0, p, acc, h, hp => ⟨[], by simp [rdGs], rfl, h, by simp [rdGs], hp⟩
  | n + 1, p, acc, h, hp => by
    rw [rdGs] at h ⊢
    have h1 := rdG_back (rdGs_sticky h) hp
    obtain ⟨l, e, hl, g⟩ := rdGs_back h h1.le
    exact ⟨(rdG L p).1 :: l, by rw [e]; simp, by simp [hl], by rw [List.flatMap_cons]; exact h1.trans g⟩
theorem eb_pEd {L : List UInt8} (h : pEr L = 0) : eb (pEd L) = L := by
  have h7 : (gA L).2.2 = 0 := by
    by_cases he : (gA L).2.2 = 0
    · exact he
    · unfold pEr at h; rw [dEnd_bad he] at h; exact h
  have hend : ¬ (gA L).2.1 < L.length := by
    intro hlt; unfold pEr at h; rw [h7, dEnd_form hlt] at h; simp at h
  have h6 : (gN L).2.2 = 0 := rdGs_sticky h7
  have h5 : (cA L).2.2 = 0 := rdN_sticky h6
  have h4 : (cN L).2.2 = 0 := rdAs_sticky h5
  have h3 : (p3 L).2 = 0 := rdN_sticky h4
  have h2 : (p2 L).2 = 0 := nx_sticky h3
  have h1 : (p1 L).2 = 0 := nx_sticky h2
  have g1 := nx_back (p := p0) h1 (by simp [p0])
  have g2 := nx_back h2 g1.le
  have g3 := nx_back h3 g2.le
  have g4 := (rdN_back h4 g3.le).1
  obtain ⟨l, el, hl, g5⟩ := rdAs_back h5 g4.le
  have g6 := (rdN_back h6 g5.le).1
  obtain ⟨m, em, hm, g7⟩ := rdGs_back h7 g6.le
  have g := g1.trans (g2.trans (g3.trans (g4.trans (g5.trans (g6.trans g7)))))
  have hall := g.all
  rw [List.take_of_length_le (show L.length ≤ _ by have := hend; exact Nat.le_of_not_lt this)] at hall
  have e1 : (cA L).1 = l := by unfold cA; rw [el]; rfl
  have e2 : (gA L).1 = m := by unfold gA; rw [em]; rfl
  unfold eb pEd
  simp only [e1, e2]
  rw [hl, hm]
  have hall2 : L = vnum (nx L p0).1 ++ (vnum (nx L (p1 L)).1 ++ (vnum (nx L (p2 L)).1 ++ (vnum (cN L).1 ++ (l.flatMap ab ++ (vnum (gN L).1 ++ m.flatMap gb))))) := hall
  refine Eq.trans ?_ hall2.symm
  simp [vn_cons, vn_nil]
theorem eb_parse {L : List UInt8} (h : (parse L).2 = 0) : eb (parse L).1 = L ∧ chkE (parse L).1 = 0 := by
  unfold parse at *
  by_cases h1 : pEr L = 0
  · rw [if_pos h1] at *
    by_cases h2 : chkE (pEd L) = 0
    · rw [if_pos h2] at *
      exact ⟨eb_pEd h1, h2⟩
    · rw [if_neg h2] at h; exact absurd h h2
  · rw [if_neg h1] at h; exact absurd h h1
/-! the numbers are numbers of Go's -/
theorem nx_lt (L : List UInt8) (p : Pt) : (nx L p).1 < 18446744073709551616 := dNum_lt _ _ _
theorem rdV_lt (L : List UInt8) (p : Pt) : (rdV L p).1 < 4 := by unfold rdV; split <;> simp_all
theorem rdN_le (L : List UInt8) (p : Pt) : (rdN L p).1 ≤ 200 := by unfold rdN; split <;> simp_all
theorem tx_len (L : List UInt8) (p : Pt) : (tx L p).1.length ≤ L.length := by
  unfold tx; rw [dText_eq]
  split
  · simp
  · exact dTake_len
theorem nx_at {L : List UInt8} {p : Pt} (h : p.1 ≤ L.length) : (nx L p).2.1 ≤ L.length := dNum_at h
theorem rdV_at {L : List UInt8} {p : Pt} (h : p.1 ≤ L.length) : (rdV L p).2.1 ≤ L.length := by
  unfold rdV; split
  · rw [dFail_at]; exact dNum_at h
  · exact dNum_at h
theorem rdN_at {L : List UInt8} {p : Pt} (h : p.1 ≤ L.length) : (rdN L p).2.1 ≤ L.length := by
  unfold rdN; split
  · rw [dFail_at]; exact dNum_at h
  · exact dNum_at h
theorem tx_at {L : List UInt8} {p : Pt} (h : p.1 ≤ L.length) : (tx L p).2.1 ≤ L.length := dText_at h
theorem rdA_okk {L : List UInt8} (hL : L.length ≤ 1000000) (p : Pt) : (rdA L p).1.ok := by
  have h0 := rdV_lt L p
  have h4 := tx_len L (f3 L (rdV L p).2)
  have h5 := tx_len L (f4 L (rdV L p).2)
  refine ⟨?_, ?_, nx_lt L _, nx_lt L _, nx_lt L _, ?_, ?_⟩
  · show -9223372036854775808 ≤ ((rdV L p).1 : Int); omega
  · show ((rdV L p).1 : Int) ≤ _; omega
  · show (bs (tx L (f3 L (rdV L p).2)).1).size ≤ _; rw [bs_size]; omega
  · show (bs (tx L (f4 L (rdV L p).2)).1).size ≤ _; rw [bs_size]; omega
theorem rdG_okk (L : List UInt8) (p : Pt) : (rdG L p).1.ok := by
  have h0 := rdV_lt L p
  refine ⟨?_, ?_, nx_lt L _⟩
  · show -9223372036854775808 ≤ ((rdV L p).1 : Int); omega
  · show ((rdV L p).1 : Int) ≤ _; omega
theorem rdAs_okk {L : List UInt8} (hL : L.length ≤ 1000000) : ∀ (n : Nat) (p : Pt) (acc : List Fil), (∀ a ∈ acc, a.ok) → ∀ a ∈ (rdAs L n p acc).1, a.ok
  | 0, _, _, h => h
  | n + 1, p, acc, h => by
    rw [rdAs]
    exact rdAs_okk hL n _ _ fun a ha => by
      rcases List.mem_append.1 ha with ha | ha
      · exact h a ha
      · rw [List.mem_singleton.1 ha]; exact rdA_okk hL p
theorem rdGs_okk {L : List UInt8} : ∀ (n : Nat) (p : Pt) (acc : List Gon), (∀ a ∈ acc, a.ok) → ∀ a ∈ (rdGs L n p acc).1, a.ok
  | 0, _, _, h => h
  | n + 1, p, acc, h => by
    rw [rdGs]
    exact rdGs_okk n _ _ fun a ha => by
      rcases List.mem_append.1 ha with ha | ha
      · exact h a ha
      · rw [List.mem_singleton.1 ha]; exact rdG_okk L p
theorem pEd_ok {L : List UInt8} (hL : L.length ≤ 1000000) : (pEd L).ok := ⟨nx_lt _ _, nx_lt _ _, nx_lt _ _, rdAs_okk hL _ _ _ (fun a ha => by cases ha), rdGs_okk _ _ _ (fun a ha => by cases ha)⟩
theorem none_ok : Edt.none.ok := Edt.ok.mk (show (0 : Nat) < _ by decide) (show (0 : Nat) < _ by decide) (show (0 : Nat) < _ by decide) (fun a (ha : a ∈ ([] : List Fil)) => by cases ha) (fun a (ha : a ∈ ([] : List Gon)) => by cases ha)
theorem parse_okk {L : List UInt8} (hL : L.length ≤ 1000000) : (parse L).1.ok := by
  unfold parse; split
  · split
    · exact pEd_ok hL
    · exact none_ok
  · exact none_ok
end Go.Proofs.YtkocekogkpemiaaDoor.Ed
