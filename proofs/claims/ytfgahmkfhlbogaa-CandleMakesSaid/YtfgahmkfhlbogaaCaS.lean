/-
  Rows of ticks and of candles in memory; steps of drawn regions. Conditions: as each theorem states.
-/
import Derived.Test.YtfgahmkfhlbogaaCaB
import Derived.OrdersHeld
import Derived.Deep.RegionHeld
import Derived.Deep.RegionHeld3
import Derived.Deep.RegionLawGrows
import Derived.Deep.DeepCutAuto
import Derived.Deep.CutRange
import Derived.Deep.AppendLies
namespace Go.Proofs.Ytfgahmkfhlbogaa.Ca
open Go.RowKit
open Go.Proofs.Ytfgahmkfhlbogaa Go.Proofs.Ytfgahmkfhlbogaa.Hx

/-! ## rows -/
def TkCells (W : World) (q : Addr) (x : Tk) : Prop := W.cell? q = some (.int .i64 x.p) ∧ W.cell? (q.add 1) = some (.int .i64 x.s)
def CdCells (W : World) (q : Addr) (x : Cd) : Prop :=
  W.cell? q = some (.int .i64 x.f) ∧ W.cell? (q.add 1) = some (.int .i64 x.h) ∧ W.cell? (q.add 2) = some (.int .i64 x.l) ∧ W.cell? (q.add 3) = some (.int .i64 x.a) ∧ W.cell? (q.add 4) = some (.int .i64 x.s) ∧ W.cell? (q.add 5) = some (.int .i64 x.n)
def KRow (W : World) (ao : Option Addr) (l : List Tk) : Prop := 0 < l.length → ∃ a, ao = some a ∧ a.block < W.heap.size ∧ ∀ i (hi : i < l.length), TkCells W (a.add (i * 2)) l[i]
def CRow (W : World) (ao : Option Addr) (l : List Cd) : Prop := 0 < l.length → ∃ a, ao = some a ∧ a.block < W.heap.size ∧ ∀ i (hi : i < l.length), CdCells W (a.add (i * 6)) l[i]
theorem TkCells.on {W W2 : World} {q : Addr} {x : Tk} {B : Nat} (h : TkCells W q x) (hq : q.block < B) (hb : Below B W W2) : TkCells W2 q x :=
  ⟨(hb.cell (p := q) hq).trans h.1, (hb.cell (p := q.add 1) (by rw [block_add]; exact hq)).trans h.2⟩
theorem CdCells.on {W W2 : World} {q : Addr} {x : Cd} {B : Nat} (h : CdCells W q x) (hq : q.block < B) (hb : Below B W W2) : CdCells W2 q x :=
  ⟨(hb.cell (p := q) hq).trans h.1, (hb.cell (p := q.add 1) (by rw [block_add]; exact hq)).trans h.2.1, (hb.cell (p := q.add 2) (by rw [block_add]; exact hq)).trans h.2.2.1,
   (hb.cell (p := q.add 3) (by rw [block_add]; exact hq)).trans h.2.2.2.1, (hb.cell (p := q.add 4) (by rw [block_add]; exact hq)).trans h.2.2.2.2.1, (hb.cell (p := q.add 5) (by rw [block_add]; exact hq)).trans h.2.2.2.2.2⟩
theorem KRow.on {W W2 : World} {ao : Option Addr} {l : List Tk} (h : KRow W ao l) (hb : Below W.heap.size W W2) : KRow W2 ao l := fun h0 => by
  obtain ⟨a, rfl, h1, h2⟩ := h h0
  exact ⟨a, rfl, Nat.lt_of_lt_of_le h1 hb.size, fun i hi => (h2 i hi).on (by rw [block_add]; exact h1) hb⟩
theorem CRow.on {W W2 : World} {ao : Option Addr} {l : List Cd} (h : CRow W ao l) (hb : Below W.heap.size W W2) : CRow W2 ao l := fun h0 => by
  obtain ⟨a, rfl, h1, h2⟩ := h h0
  exact ⟨a, rfl, Nat.lt_of_lt_of_le h1 hb.size, fun i hi => (h2 i hi).on (by rw [block_add]; exact h1) hb⟩
/-- part of a row -/
theorem KRow.seg {W : World} {a : Addr} {l : List Tk} (h : KRow W (some a) l) (i n : Nat) : KRow W (some (a.add (i * 2))) ((l.drop i).take n) := fun h0 => by
  simp only [List.length_take, List.length_drop] at h0
  obtain ⟨a', e, h1, h2⟩ := h (by omega)
  injection e with e; subst e
  refine ⟨_, rfl, by rw [block_add]; exact h1, fun j hj => ?_⟩
  simp only [List.length_take, List.length_drop] at hj
  have := h2 (i + j) (by omega)
  rw [Go.Deep.add_add, ← Nat.add_mul]
  simpa using this
theorem CRow.seg {W : World} {a : Addr} {l : List Cd} (h : CRow W (some a) l) (i n : Nat) : CRow W (some (a.add (i * 6))) ((l.drop i).take n) := fun h0 => by
  simp only [List.length_take, List.length_drop] at h0
  obtain ⟨a', e, h1, h2⟩ := h (by omega)
  injection e with e; subst e
  refine ⟨_, rfl, by rw [block_add]; exact h1, fun j hj => ?_⟩
  simp only [List.length_take, List.length_drop] at hj
  have := h2 (i + j) (by omega)
  rw [Go.Deep.add_add, ← Nat.add_mul]
  simpa using this
def tkd (t : Tk) : Cd := one t
def cdd (c : Cd) : Cd := c

/-! ## steps -/
variable {ops : Array Oper} {o : Oper} {a : Act} {W : World} {K : Act → World → Prop} {Q : Exit → Act → World → Prop} {E : Prop}
theorem st_allocC (hg : o.guard = none) (hop : o.op = .alloc 42)
    (h : ∀ b wn, W.heap.size ≤ b → wn.heap[b]? = some (.cells (ccs z0) 42 (0, 0)) → Below W.heap.size W wn → K (a.put o.dst (.pointer (some ⟨b, 0, none⟩))) wn) :
    if Region.wanted o (yielded ops a.tmps) = true then Oper.wp Try.prog o a W K Q else E := by
  have hw : Region.wanted o (yielded ops a.tmps) = true := by simp [Region.wanted, hg]
  rw [if_pos hw]
  unfold Oper.wp
  simp [execOp, hop, go_sem]
  exact h _ _ (Nat.le_refl _) (heap_alloc_last W _) ((Below.refl _ W).alloc (Nat.le_refl _) _)
def set6 (w : World) (b : Nat) (c : Cd) : World :=
  (((((w.setCell ⟨b, 0, none⟩ (.int .i64 c.f)).setCell ⟨b, 1, none⟩ (.int .i64 c.h)).setCell ⟨b, 2, none⟩ (.int .i64 c.l)).setCell ⟨b, 3, none⟩ (.int .i64 c.a)).setCell ⟨b, 4, none⟩ (.int .i64 c.s)).setCell ⟨b, 5, none⟩ (.int .i64 c.n)
theorem set6_row {w : World} {b : Nat} {t : TypeId} {c d : Cd} (h0 : w.heap[b]? = some (.cells (ccs c) t (0, 0))) : (set6 w b d).heap[b]? = some (.cells (ccs d) t (0, 0)) := by
  have h1 := heap_set (i := 0) h0 (.int .i64 d.f)
  have h2 := heap_set (i := 1) h1 (.int .i64 d.h)
  have h3 := heap_set (i := 2) h2 (.int .i64 d.l)
  have h4 := heap_set (i := 3) h3 (.int .i64 d.a)
  have h5 := heap_set (i := 4) h4 (.int .i64 d.s)
  exact heap_set (i := 5) h5 (.int .i64 d.n)
theorem set6_grown (w : World) (b : Nat) (c : Cd) : w.grownBy (set6 w b c) (some b) :=
  grown_t (grown_t (grown_t (grown_t (grown_t (grown_set w b 0 _) (grown_set _ b 1 _)) (grown_set _ b 2 _)) (grown_set _ b 3 _)) (grown_set _ b 4 _)) (grown_set _ b 5 _)
theorem st_storeC {p q : Nat} {b : Nat} {u c : Cd} {ty : TypeId} (hg : o.guard = none) (hop : o.op = .store 42 (.tmp p) (.tmp q)) (hp : (a.tmps[p]?).getD undef = .pointer (some ⟨b, 0, none⟩))
    (hq : (a.tmps[q]?).getD undef = .agg #[.int .i64 c.f, .int .i64 c.h, .int .i64 c.l, .int .i64 c.a, .int .i64 c.s, .int .i64 c.n])
    (hb : W.heap[b]? = some (.cells (ccs u) ty (0, 0))) (hd : o.dst = none)
    (hK : ∀ wn, wn.heap[b]? = some (.cells (ccs c) ty (0, 0)) → W.grownBy wn (some b) → K a wn) :
    if Region.wanted o (yielded ops a.tmps) = true then Oper.wp Try.prog o a W K Q else E := by
  have hw : Region.wanted o (yielded ops a.tmps) = true := by simp [Region.wanted, hg]
  rw [if_pos hw]
  obtain ⟨⟨d0, d1, d2, d3, d4, d5⟩, f0, f1, f2, f3, f4, f5⟩ := cell6 (show W.heap[b]? = some (.cells #[.int .i64 u.f, .int .i64 u.h, .int .i64 u.l, .int .i64 u.a, .int .i64 u.s, .int .i64 u.n] ty (0, 0)) from hb)
  unfold Oper.wp
  simp [execOp, hop, go_sem, hp, hq, hd, d0, d1, d2, d3, d4, d5, f0, f1, f2, f3, f4, f5]
  exact hK _ (set6_row hb) (set6_grown W b c)
theorem below_grown0 {W wn : World} (h : W.grownBy wn none) : Below W.heap.size W wn := ⟨h.os, h.tape, h.output, h.size, fun k hk => h.block k hk (by simp)⟩
theorem below_grown1 {w6 W wn : World} {b : Nat} (hs : Below w6.heap.size w6 W) (h : W.grownBy wn (some b)) (hb : w6.heap.size ≤ b) : Below w6.heap.size w6 wn :=
  hs.trans ⟨h.os, h.tape, h.output, h.size, fun k hk => h.block k (Nat.lt_of_lt_of_le hk hs.size) (fun e => by injection e with e; omega)⟩
theorem keep_other {W wn : World} {b k : Nat} {ob : Obj} (h : W.heap[k]? = some ob) (hg : W.grownBy wn (some b)) (hne : k ≠ b) : wn.heap[k]? = some ob :=
  (hg.block k (hp_lt h) (fun e => by injection e with e; exact hne e)).trans h
theorem row6 {w : World} {b : Nat} {c : Cd} {t : TypeId} (h : w.heap[b]? = some (.cells (ccs c) t (0, 0))) :
    (w.cell? ⟨b, 0, none⟩ = some (.int .i64 c.f) ∧ w.cell? ⟨b, 1, none⟩ = some (.int .i64 c.h) ∧ w.cell? ⟨b, 2, none⟩ = some (.int .i64 c.l) ∧ w.cell? ⟨b, 3, none⟩ = some (.int .i64 c.a) ∧ w.cell? ⟨b, 4, none⟩ = some (.int .i64 c.s) ∧ w.cell? ⟨b, 5, none⟩ = some (.int .i64 c.n)) ∧
    (w.frozen? ⟨b, 0, none⟩ = false ∧ w.frozen? ⟨b, 1, none⟩ = false ∧ w.frozen? ⟨b, 2, none⟩ = false ∧ w.frozen? ⟨b, 3, none⟩ = false ∧ w.frozen? ⟨b, 4, none⟩ = false ∧ w.frozen? ⟨b, 5, none⟩ = false) := cell6 h
end Go.Proofs.Ytfgahmkfhlbogaa.Ca
