/-
  Edits as bytes, and back: the mathematics. Conditions: as each theorem states.
-/
import Derived.Test.YtkocekogkpemiaaDoorBaMath
namespace Go.Proofs.YtkocekogkpemiaaDoor.Ed
open Go.Proofs.YtkocekogkpemiaaDoor
open Vi Ba

structure Fil where
  level : Int
  number : Nat
  size : Nat
  count : Nat
  least : ByteArray
  most : ByteArray
instance : Inhabited Fil := ⟨⟨0, 0, 0, 0, ⟨#[]⟩, ⟨#[]⟩⟩⟩
structure Gon where
  level : Int
  number : Nat
instance : Inhabited Gon := ⟨⟨0, 0⟩⟩
structure Edt where
  log : Nat
  next : Nat
  seq : Nat
  come : List Fil
  go : List Gon
def Edt.none : Edt := ⟨0, 0, 0, [], []⟩
/-- the numbers are numbers of Go's -/
def Fil.ok (a : Fil) : Prop := -9223372036854775808 ≤ a.level ∧ a.level ≤ 9223372036854775807 ∧ a.number < 18446744073709551616 ∧ a.size < 18446744073709551616 ∧ a.count < 18446744073709551616 ∧ a.least.size ≤ 9223372036854775807 ∧ a.most.size ≤ 9223372036854775807
def Gon.ok (g : Gon) : Prop := -9223372036854775808 ≤ g.level ∧ g.level ≤ 9223372036854775807 ∧ g.number < 18446744073709551616
structure Edt.ok (e : Edt) : Prop where
  log : e.log < 18446744073709551616
  next : e.next < 18446744073709551616
  seq : e.seq < 18446744073709551616
  come : ∀ a ∈ e.come, a.ok
  go : ∀ g ∈ e.go, g.ok
def lvOk (n : Int) : Prop := 0 ≤ n ∧ n < 4
instance (n : Int) : Decidable (lvOk n) := inferInstanceAs (Decidable (_ ∧ _))
def kyOk (s : ByteArray) : Prop := ¬ s.size = 0 ∧ s.size ≤ 200
instance (s : ByteArray) : Decidable (kyOk s) := inferInstanceAs (Decidable (_ ∧ _))
def chkA (a : Fil) : Int :=
  if ¬ lvOk a.level then 21 else if ¬ (kyOk a.least ∧ kyOk a.most ∧ Op.bytesLess a.most.data.toList a.least.data.toList = false) then 19 else if a.number = 0 then 8 else 0
theorem chkA_ok {a : Fil} : chkA a = 0 ↔ lvOk a.level ∧ kyOk a.least ∧ kyOk a.most ∧ Op.bytesLess a.most.data.toList a.least.data.toList = false ∧ ¬ a.number = 0 := by
  unfold chkA
  split
  · rename_i h; simp; intro h'; exact absurd h' h
  · rename_i h
    have h := Classical.not_not.1 h
    split
    · rename_i h2; simp; intro _ a1 a2 a3; exact absurd ⟨a1, a2, a3⟩ h2
    · rename_i h2
      obtain ⟨a1, a2, a3⟩ := Classical.not_not.1 h2
      split
      · rename_i h3; simp; intros; exact h3
      · rename_i h3; exact ⟨fun _ => ⟨h, a1, a2, a3, h3⟩, fun _ => rfl⟩
def chkL : List Fil → Int
  | [] => 0
  | a :: l => if chkA a = 0 then chkL l else chkA a
theorem chkL_ok {l : List Fil} : chkL l = 0 ↔ ∀ a ∈ l, chkA a = 0 := by
  induction l with
  | nil => simp [chkL]
  | cons c l ih =>
    unfold chkL
    split
    · rename_i h; simp [h, ih]
    · rename_i h; simp [h]
def chkE (e : Edt) : Int :=
  if 200 < e.come.length ∨ 200 < e.go.length then 6 else if chkL e.come = 0 then (if ∀ g ∈ e.go, lvOk g.level then 0 else 21) else chkL e.come
theorem chkE_ok {e : Edt} : chkE e = 0 ↔ e.come.length ≤ 200 ∧ e.go.length ≤ 200 ∧ (∀ a ∈ e.come, chkA a = 0) ∧ ∀ g ∈ e.go, lvOk g.level := by
  unfold chkE
  split
  · constructor
    · intro h; simp at h
    · intro h; omega
  · split
    · rename_i h1 h2
      rw [chkL_ok] at h2
      split
      · rename_i h3; exact ⟨fun _ => ⟨by omega, by omega, h2, h3⟩, fun _ => rfl⟩
      · rename_i h3
        constructor
        · intro h; simp at h
        · intro h; exact absurd h.2.2.2 h3
    · rename_i h1 h2
      constructor
      · intro h; exact absurd h h2
      · intro h; exact absurd (chkL_ok.2 h.2.2.1) h2
/-! bytes -/
def vn (l : List Nat) : List UInt8 := l.flatMap vnum
theorem vn_len : ∀ {l : List Nat}, (∀ n ∈ l, n < 18446744073709551616) → (vn l).length ≤ 10 * l.length
  | [], _ => by simp [vn]
  | n :: l, h => by
    have h1 := vnum_len10 (h n (by simp))
    have h2 := vn_len (l := l) fun x hx => h x (List.mem_cons_of_mem _ hx)
    unfold vn at *
    rw [List.flatMap_cons, List.length_append, List.length_cons]; omega
def ab (a : Fil) : List UInt8 := vn [a.level.toNat, a.number, a.size, a.count] ++ (vtx a.least ++ vtx a.most)
def gb (g : Gon) : List UInt8 := vn [g.level.toNat, g.number]
def eb (e : Edt) : List UInt8 := vn [e.log, e.next, e.seq, e.come.length] ++ (e.come.flatMap ab ++ (vn [e.go.length] ++ e.go.flatMap gb))
theorem ab_len {a : Fil} (ho : a.ok) (h : chkA a = 0) : (ab a).length ≤ 460 := by
  obtain ⟨h1, h2, h3, _, _⟩ := chkA_ok.1 h
  obtain ⟨_, _, o1, o2, o3, _, _⟩ := ho
  have v1 := vtx_len (s := a.least) (by have := h2.2; omega)
  have v2 := vtx_len (s := a.most) (by have := h3.2; omega)
  have v3 := vn_len (l := [a.level.toNat, a.number, a.size, a.count]) (by
    intro n hn
    simp at hn
    rcases hn with rfl | rfl | rfl | rfl
    · have := h1.2; omega
    · exact o1
    · exact o2
    · exact o3)
  have := h2.2
  have := h3.2
  simp at v3
  unfold ab; rw [List.length_append, List.length_append]; omega
theorem abs_len : ∀ {l : List Fil}, (∀ a ∈ l, a.ok) → (∀ a ∈ l, chkA a = 0) → (l.flatMap ab).length ≤ 460 * l.length
  | [], _, _ => by simp
  | a :: l, ho, h => by
    have h1 := ab_len (ho a (by simp)) (h a (by simp))
    have h2 := abs_len (l := l) (fun x hx => ho x (List.mem_cons_of_mem _ hx)) fun x hx => h x (List.mem_cons_of_mem _ hx)
    rw [List.flatMap_cons, List.length_append, List.length_cons]; omega
theorem gb_len {g : Gon} (ho : g.ok) (h : lvOk g.level) : (gb g).length ≤ 20 := by
  have v := vn_len (l := [g.level.toNat, g.number]) (by
    intro n hn
    simp at hn
    rcases hn with rfl | rfl
    · have := h.2; omega
    · exact ho.2.2)
  simpa [gb] using v
theorem gbs_len : ∀ {l : List Gon}, (∀ a ∈ l, a.ok) → (∀ a ∈ l, lvOk a.level) → (l.flatMap gb).length ≤ 20 * l.length
  | [], _, _ => by simp
  | a :: l, ho, h => by
    have h1 := gb_len (ho a (by simp)) (h a (by simp))
    have h2 := gbs_len (l := l) (fun x hx => ho x (List.mem_cons_of_mem _ hx)) fun x hx => h x (List.mem_cons_of_mem _ hx)
    rw [List.flatMap_cons, List.length_append, List.length_cons]; omega
/-! what bytes are -/
abbrev Pt := Nat × Int
def rdN (L : List UInt8) (p : Pt) : Nat × Pt := if 200 < (dNum L p.1 p.2).1 then (0, dFail (dNum L p.1 p.2).2.1 (dNum L p.1 p.2).2.2 6) else dNum L p.1 p.2
def rdV (L : List UInt8) (p : Pt) : Nat × Pt := if 4 ≤ (dNum L p.1 p.2).1 then (0, dFail (dNum L p.1 p.2).2.1 (dNum L p.1 p.2).2.2 21) else dNum L p.1 p.2
def nx (L : List UInt8) (p : Pt) : Nat × Pt := dNum L p.1 p.2
def tx (L : List UInt8) (p : Pt) : List UInt8 × Pt := dText L p.1 p.2 200
structure Fil5 where
  number : Nat
  size : Nat
  count : Nat
  least : ByteArray
  most : ByteArray
def f1 (L : List UInt8) (p : Pt) : Pt := (nx L p).2
def f2 (L : List UInt8) (p : Pt) : Pt := (nx L (f1 L p)).2
def f3 (L : List UInt8) (p : Pt) : Pt := (nx L (f2 L p)).2
def f4 (L : List UInt8) (p : Pt) : Pt := (tx L (f3 L p)).2
def f5 (L : List UInt8) (p : Pt) : Pt := (tx L (f4 L p)).2
def rdF (L : List UInt8) (p : Pt) : Fil5 × Pt := (⟨(nx L p).1, (nx L (f1 L p)).1, (nx L (f2 L p)).1, bs (tx L (f3 L p)).1, bs (tx L (f4 L p)).1⟩, f5 L p)
def mkF (v : Nat) (f : Fil5) : Fil := ⟨v, f.number, f.size, f.count, f.least, f.most⟩
def rdA (L : List UInt8) (p : Pt) : Fil × Pt := (mkF (rdV L p).1 (rdF L (rdV L p).2).1, (rdF L (rdV L p).2).2)
def rdG (L : List UInt8) (p : Pt) : Gon × Pt := (⟨(rdV L p).1, (nx L (rdV L p).2).1⟩, (nx L (rdV L p).2).2)
def rdAs (L : List UInt8) : Nat → Pt → List Fil → List Fil × Pt
  | 0, p, acc => (acc, p)
  | n + 1, p, acc => rdAs L n (rdA L p).2 (acc ++ [(rdA L p).1])
def rdGs (L : List UInt8) : Nat → Pt → List Gon → List Gon × Pt
  | 0, p, acc => (acc, p)
  | n + 1, p, acc => rdGs L n (rdG L p).2 (acc ++ [(rdG L p).1])
def p0 : Pt := (0, 0)
def p1 (L : List UInt8) : Pt := (nx L p0).2
def p2 (L : List UInt8) : Pt := (nx L (p1 L)).2
def p3 (L : List UInt8) : Pt := (nx L (p2 L)).2
def cN (L : List UInt8) : Nat × Pt := rdN L (p3 L)
def cA (L : List UInt8) : List Fil × Pt := rdAs L (cN L).1 (cN L).2 []
def gN (L : List UInt8) : Nat × Pt := rdN L (cA L).2
def gA (L : List UInt8) : List Gon × Pt := rdGs L (gN L).1 (gN L).2 []
def pEd (L : List UInt8) : Edt := ⟨(nx L p0).1, (nx L (p1 L)).1, (nx L (p2 L)).1, (cA L).1, (gA L).1⟩
def pEr (L : List UInt8) : Int := dEnd L.length (gA L).2.1 (gA L).2.2
def parse (L : List UInt8) : Edt × Int := if pEr L = 0 then (if chkE (pEd L) = 0 then (pEd L, 0) else (Edt.none, chkE (pEd L))) else (Edt.none, pEr L)
theorem parse_bad {L : List UInt8} (h : (parse L).2 ≠ 0) : (parse L).1 = Edt.none := by
  unfold parse at *
  split at h
  · split at h
    · exact absurd rfl h
    · rename_i h1 h2; rw [if_pos h1, if_neg h2]
  · rename_i h1; rw [if_neg h1]
end Go.Proofs.YtkocekogkpemiaaDoor.Ed
