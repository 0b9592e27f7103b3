/-
  The chapter's example (awake); own rows of trades; two walks held to be one. Conditions: as each theorem states.
-/
import Derived.Test.YtligdamibjclnaaWkD
import Derived.Deep.OwnRows
import Derived.Deep.AppendLies
namespace Go.Proofs.Ytligdamibjclnaa.Wk
open Go.RowKit Go.Shelf
open Go.Proofs.Ytligdamibjclnaa
open Se Fl
attribute [local go_sem] run_store_float run_store_complex

def tq (t : Trd) : List Value := [.int .u64 t.maker, .int .u64 t.taker, .int .i64 t.price, .int .i64 t.size]
def tCells (l : List Trd) : List Value := l.flatMap tq
theorem tCells_snoc (l : List Trd) (t : Trd) : tCells (l ++ [t]) = tCells l ++ tq t := by simp [tCells]
theorem tCells_len (l : List Trd) : (tCells l).length = l.length * 4 := by
  induction l with
  | nil => rfl
  | cons t l ih => simp only [tCells, List.flatMap_cons, List.length_append, List.length_cons] at ih ⊢; rw [ih]; simp [tq]; omega
theorem tCells_at (l : List Trd) : ∀ (i : Nat) (hi : i < l.length), (tCells l)[i * 4]? = some (.int .u64 l[i].maker) ∧ (tCells l)[i * 4 + 1]? = some (.int .u64 l[i].taker) ∧ (tCells l)[i * 4 + 2]? = some (.int .i64 l[i].price) ∧ (tCells l)[i * 4 + 3]? = some (.int .i64 l[i].size) := by
  induction l with
  | nil => intro i hi; simp at hi
  | cons t l ih =>
    intro i hi
    have e : tCells (t :: l) = .int .u64 t.maker :: .int .u64 t.taker :: .int .i64 t.price :: .int .i64 t.size :: tCells l := rfl
    cases i with
    | zero => rw [e]; simp
    | succ i =>
      have := ih i (by simpa using hi)
      rw [e, show (i + 1) * 4 = i * 4 + 1 + 1 + 1 + 1 by omega]
      simpa using this
theorem trow_of {w : World} {B : Nat} {t : TypeId} {v : Value} {l : List Trd} (h : w.ownsRow B t 4 v l.length (tCells l)) :
    ∃ A c, v = .slice A l.length c ∧ TRow w A l := by
  have hc := fun g hg => h.cells (g := g) hg
  rcases h.2 with ⟨rfl, h0⟩ | ⟨g, cap, cur, rfl, hb, hg, _⟩
  · exact ⟨none, 0, by rw [h0], fun h1 => by omega⟩
  · refine ⟨some ⟨g, 0, none⟩, cap, rfl, fun _ => ⟨_, rfl, (Array.getElem?_eq_some_iff.1 hg).1, fun i hi => ?_⟩⟩
    obtain ⟨a0, a1, a2, a3⟩ := tCells_at l i hi
    have k := fun j v hj => hc g rfl j v hj
    refine ⟨?_, ?_, ?_, ?_⟩
    · simpa [Addr.add] using k _ _ a0
    · rw [tadd]; simpa [Addr.add] using k _ _ a1
    · rw [tadd]; simpa [Addr.add] using k _ _ a2
    · rw [tadd]; simpa [Addr.add] using k _ _ a3
theorem trow_new (w : World) (x y : Trd) (t : TypeId) : TRow (w.alloc (.cells (tCells [x, y]).toArray t)) (some ⟨w.heap.size, 0, none⟩) [x, y] := fun _ => by
  refine ⟨_, rfl, by simp, fun i hi => ?_⟩
  have h := heap_alloc_last w (.cells (tCells [x, y]).toArray t)
  match i, hi with
  | 0, _ => exact ⟨(cells_in h 0 rfl).1, (cells_in h 1 rfl).1, (cells_in h 2 rfl).1, (cells_in h 3 rfl).1⟩
  | 1, _ => exact ⟨(cells_in h 4 rfl).1, (cells_in h 5 rfl).1, (cells_in h 6 rfl).1, (cells_in h 7 rfl).1⟩
theorem fl_two : Fl 4611686018427387904 2 := fl_int (z := 2) (by decide)

/-! ## awake -/
theorem ord_of {a b : Cw} (h : ceqW a b = true) : ((FloatKind.f64.format.order a.re b.re == some .eq) && (FloatKind.f64.format.order a.im b.im == some .eq)) = true := h
def exT : List Trd := [⟨0, 0, 5, 2⟩, ⟨0, 0, 6, 1⟩]
theorem ex_walk : ∃ z, PF (ofW exT) z 2 ∧ z.x = 2 ∧ z.y = 1 ∧ z.h = 1 := by
  rw [ofW_end]
  exact ⟨_, (then_pf (then_pf pf_beg (by decide) 0 5 2).1 (by decide) 5 6 1).1, by decide, by decide, by decide⟩
set_option maxHeartbeats 1000000 in
theorem awake34_any (w : World) : Calls Try.prog 6 #[] w fun e w' => e = .returned (.bool true) ∧ Below w.heap.size w w' := by
  obtain ⟨z, hz, z1, z2, z3⟩ := ex_walk
  have cO := Lib.hid (fun W R => of_any (some ⟨w.heap.size, 0, none⟩) 2 exT (by decide) W R)
  have q1 : ceqW (ofW exT).pos ⟨4611686018427387904, 4607182418800017408⟩ = true := by
    rw [ceqW_of hz.pos (show CF ⟨4611686018427387904, 4607182418800017408⟩ 2 1 from ⟨fl_two, fl_one⟩), z1, z2]; decide
  have q2 : ceqW (ofW exT).hd ⟨0, 4607182418800017408⟩ = true := by
    rw [ceqW_of hz.hd (show CF ⟨0, 4607182418800017408⟩ 0 1 from ⟨fl_zero, fl_one⟩), z3]; decide
  have q3 : (ofW exT).st = 2 := hz.st
  have hN : Hid (TRow (w.alloc (.cells #[.int .u64 0, .int .u64 0, .int .i64 5, .int .i64 2, .int .u64 0, .int .u64 0, .int .i64 6, .int .i64 1] 46)) (some ⟨w.heap.size, 0, none⟩) [⟨0, 0, 5, 2⟩, ⟨0, 0, 6, 1⟩]) := Lib.hid (trow_new w ⟨0, 0, 5, 2⟩ ⟨0, 0, 6, 1⟩ 46)
  unfold pv at cO
  have q1' := ord_of q1
  have q2' := ord_of q2
  clear hz z1 z2 z3 q1 q2
  simp only at q1' q2'
  simp only [show exT.length = 2 from rfl] at cO
  have hE : exT = [⟨0, 0, 5, 2⟩, ⟨0, 0, 6, 1⟩] := rfl
  generalize ofW exT = q at *
  rw [hE] at cO
  clear hE
  go_enter Try.func6, Try.ntmps6
  go_wp2_with (first
    | (go_at_call 7; (with_reducible refine (cO.out _ hN.out).mono ?_); rintro e w1 ⟨rfl, hb⟩))
  go_ret
  have hz : w.heap.size + 1 ≤ w1.heap.size := by have := hb.size; simp at this; omega
  exact ⟨rfl, (((Below.refl _ w).alloc (Nat.le_refl _) _).trans (hb.mono (by simp))).alloc (by omega) _⟩
/-! ## two walks held to be one -/
theorem pathHeld : Try.prog.stoodInHeld 26 = false := by kernel_rfl
theorem equal_cxW (d : Nat) (a b : Nat) (h : ceqW ⟨a, b⟩ ⟨a, b⟩ = true) (w : World) : (Op.equalIn (d + 1) 24 (.complex .f64 a b) (.complex .f64 a b)).run Try.prog w = .ok true w := by
  have e : (Op.equalIn (d + 1) 24 (.complex .f64 a b) (.complex .f64 a b)).run Try.prog w = .ok (ceqW ⟨a, b⟩ ⟨a, b⟩) w := by
    simp [Op.equalIn, run_underlying Try.underlying24]; rfl
  rw [e, h]
theorem eq_path {q : Pw} {z : Pz} {k : Nat} (h : PF q z k) (w : World) :
    (binOp .eql 26 (.agg #[.complex .f64 q.pos.re q.pos.im, .complex .f64 q.hd.re q.hd.im, .int .i64 q.st, .complex .f64 q.lo.re q.lo.im, .complex .f64 q.hi.re q.hi.im]) (.agg #[.complex .f64 q.pos.re q.pos.im, .complex .f64 q.hd.re q.hd.im, .int .i64 q.st, .complex .f64 q.lo.re q.lo.im, .complex .f64 q.hi.re q.hi.im])).run Try.prog w = .ok (.bool true) w := by
  have e1 := fun w => equal_cxW 9998 q.pos.re q.pos.im (by rw [ceqW_of h.pos h.pos]; simp) w
  have e2 := fun w => equal_cxW 9998 q.hd.re q.hd.im (by rw [ceqW_of h.hd h.hd]; simp) w
  have e3 := fun w => equal_cxW 9998 q.lo.re q.lo.im (by rw [ceqW_of h.lo h.lo]; simp) w
  have e4 := fun w => equal_cxW 9998 q.hi.re q.hi.im (by rw [ceqW_of h.hi h.hi]; simp) w
  rw [run_eql_struct, run_equalIn_struct w 9999 _ _ _ (by kernel_rfl) pathHeld]
  have hf : (Try.prog.fieldsOf 26).toList.map (fun f => (f.name, f.type, f.offset)) = [("At", 24, 0), ("Heading", 24, 1), ("Steps", 3, 2), ("Low", 24, 3), ("High", 24, 4)] := by kernel_rfl
  generalize (Try.prog.fieldsOf 26).toList = fs at hf
  have hl : fs.length = 5 := by have := congrArg List.length hf; simpa using this
  match fs, hl, hf with
  | [f0, f1, f2, f3, f4], _, hf =>
    simp only [List.map_cons, List.map_nil, List.cons.injEq, Prod.mk.injEq, and_true] at hf
    obtain ⟨⟨a0, b0, c0⟩, ⟨a1, b1, c1⟩, ⟨a2, b2, c2⟩, ⟨a3, b3, c3⟩, ⟨a4, b4, c4⟩⟩ := hf
    simp [Op.eqFields, a0, a1, a2, a3, a4, b0, b1, b2, b3, b4, c0, c1, c2, c3, c4, part, go_sem, Try.underlying3, e1, e2, e3, e4]
/-! ## the mirrored walk's row, the standing one's -/
structure MS (w : World) (t : Trd) (m s : Value) (lm ls : List Trd) (W : World) : Prop where
  tb : W.heap[w.heap.size]? = some (.cells #[.int .u64 t.maker, .int .u64 t.taker, .int .i64 t.price, .int .i64 t.size] 46 (0, 0))
  owm : W.ownsRow (w.heap.size + 1) 46 4 m lm.length (tCells lm)
  ows : W.ownsRow (w.heap.size + 1) 46 4 s ls.length (tCells ls)
  apart : ∀ k, m.ownBlock = some k → s.ownBlock ≠ some k
  below : Below w.heap.size w W
section
variable {w W W2 : World} {t : Trd} {m s v2 : Value} {lm ls l2 : List Trd}
theorem MS.size (h : MS w t m s lm ls W) : w.heap.size < W.heap.size := (Array.getElem?_eq_some_iff.1 h.tb).1
theorem hp_on' {k : Nat} {ob : Obj} (h : W.heap[k]? = some ob) (hb : Below W.heap.size W W2) : W2.heap[k]? = some ob := (hb.block _ (Array.getElem?_eq_some_iff.1 h).1).trans h
theorem own_on {B : Nat} {T : TypeId} {c : Nat} {v : Value} {n : Nat} {xs : List Value} (h : W.ownsRow B T c v n xs) (b : Below W.heap.size W W2) : W2.ownsRow B T c v n xs :=
  h.kept (row := none) ⟨b.os, b.tape, b.output, b.size, fun k hk _ => b.block k hk⟩ (by cases v.ownBlock <;> simp)
theorem MS.on (h : MS w t m s lm ls W) (hb : Below W.heap.size W W2) : MS w t m s lm ls W2 :=
  ⟨hp_on' h.tb hb, own_on h.owm hb, own_on h.ows hb, h.apart, h.below.trans (hb.mono h.below.size)⟩
theorem MS.alloc (h : MS w t m s lm ls W) (o : Obj) : MS w t m s lm ls (W.alloc o) := h.on ((Below.refl _ W).alloc (Nat.le_refl _) o)
theorem MS.putM (h : MS w t m s lm ls W) (hg : W.grownBy W2 m.ownBlock) (ho : W2.ownsRow (w.heap.size + 1) 46 4 v2 l2.length (tCells l2)) (hw : ∀ k, v2.ownBlock = some k → m.ownBlock = some k ∨ W.heap.size ≤ k) : MS w t v2 s l2 ls W2 := by
  have hs : W2.ownsRow (w.heap.size + 1) 46 4 s ls.length (tCells ls) := by
    cases hv : m.ownBlock with
    | none => rw [hv] at hg; exact h.ows.kept hg (Classical.em _)
    | some k => rw [hv] at hg; exact h.ows.kept hg (.inr fun e => h.apart k hv e)
  refine ⟨(hg.block _ h.size (fun e => by have := (h.owm.lt _ e.symm).1; omega)).trans h.tb, ho, hs, fun k hk e => ?_, ?_⟩
  · rcases hw k hk with e2 | e2
    · exact h.apart k e2 e
    · have := (h.ows.lt k e).2; omega
  · exact h.below.trans ⟨hg.os, hg.tape, hg.output, hg.size, fun k hk => hg.block k (by have := h.size; omega) (fun e => by have := (h.owm.lt _ e.symm).1; omega)⟩
theorem MS.putS (h : MS w t m s lm ls W) (hg : W.grownBy W2 s.ownBlock) (ho : W2.ownsRow (w.heap.size + 1) 46 4 v2 l2.length (tCells l2)) (hw : ∀ k, v2.ownBlock = some k → s.ownBlock = some k ∨ W.heap.size ≤ k) : MS w t m v2 lm l2 W2 := by
  have hm : W2.ownsRow (w.heap.size + 1) 46 4 m lm.length (tCells lm) := by
    cases hv : s.ownBlock with
    | none => rw [hv] at hg; exact h.owm.kept hg (Classical.em _)
    | some k => rw [hv] at hg; exact h.owm.kept hg (.inr fun e => h.apart k e hv)
  refine ⟨(hg.block _ h.size (fun e => by have := (h.ows.lt _ e.symm).1; omega)).trans h.tb, hm, ho, fun k hk e => ?_, ?_⟩
  · rcases hw k e with e2 | e2
    · exact h.apart k hk e2
    · have := (h.owm.lt k hk).2; omega
  · exact h.below.trans ⟨hg.os, hg.tape, hg.output, hg.size, fun k hk => hg.block k (by have := h.size; omega) (fun e => by have := (h.ows.lt _ e.symm).1; omega)⟩
end
theorem news_four (w1 : World) (x0 x1 x2 x3 : Value) (t : TypeId) : ∀ j y, [x0, x1, x2, x3][j]? = some y → (w1.alloc (.cells #[x0, x1, x2, x3] t)).cell? ((⟨w1.heap.size, 0, none⟩ : Addr).add j) = some y :=
  World.news_of_block (heap_alloc_new w1 (.cells #[x0, x1, x2, x3] t))
theorem news_two_four (w1 : World) (o : Obj) (x0 x1 x2 x3 : Value) (t : TypeId) : ∀ j y, [x0, x1, x2, x3][j]? = some y → ((w1.alloc o).alloc (.cells #[x0, x1, x2, x3] t)).cell? ((⟨w1.heap.size + 1, 0, none⟩ : Addr).add j) = some y :=
  World.news_of_block (by have := heap_alloc_new (w1.alloc o) (.cells #[x0, x1, x2, x3] t); simpa using this)
end Go.Proofs.Ytligdamibjclnaa.Wk
