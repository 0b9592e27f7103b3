/-
  Steps of a region that draws its order, with letters for what they make: an alloc, a new row of one trade, a store of a walk. Conditions: as each theorem states.
-/
import Derived.Test.YtligdamibjclnaaWkE
import Derived.OrdersHeld
import Derived.Deep.RegionHeld
import Derived.Deep.RegionLawGrows
namespace Go.Proofs.Ytligdamibjclnaa.Wk
open Go.RowKit Go.Shelf
open Go.Proofs.Ytligdamibjclnaa
attribute [local go_sem] run_store_float run_store_complex

variable {ops : Array Oper} {o : Oper} {a : Act} {W : World} {K : Act → World → Prop} {Q : Exit → Act → World → Prop} {E : Prop}
theorem st_alloc (hg : o.guard = none) (hop : o.op = .alloc 26)
    (h : ∀ b wn, W.heap.size ≤ b → wn.heap[b]? = some (.cells (pcs zW) 26 (0, 0)) → Below W.heap.size W wn → K (a.put o.dst (.pointer (some ⟨b, 0, none⟩))) wn) :
    if Region.wanted o (yielded ops a.tmps) = true then Oper.wp Try.prog o a W K Q else E := by
  have hw : Region.wanted o (yielded ops a.tmps) = true := by simp [Region.wanted, hg]
  rw [if_pos hw]
  unfold Oper.wp
  simp [execOp, hop, go_sem]
  exact h _ _ (Nat.le_refl _) (heap_alloc_last W _) ((Below.refl _ W).alloc (Nat.le_refl _) _)
theorem st_news {y : Nat} {x0 x1 x2 x3 : Value} (hg : o.guard = none) (hop : o.op = .buildSlice 22 1 #[(0, .tmp y)]) (hx : (a.tmps[y]?).getD undef = .agg #[x0, x1, x2, x3])
    (h : ∀ b wn, W.heap.size ≤ b → wn.heap[b]? = some (.cells #[x0, x1, x2, x3] 46 (0, 0)) → Below W.heap.size W wn → K (a.put o.dst (.slice (some ⟨b, 0, none⟩) 1 1)) wn) :
    if Region.wanted o (yielded ops a.tmps) = true then Oper.wp Try.prog o a W K Q else E := by
  have hw : Region.wanted o (yielded ops a.tmps) = true := by simp [Region.wanted, hg]
  rw [if_pos hw]
  unfold Oper.wp
  simp [execOp, hop, go_sem, hx]
  exact h _ _ (Nat.le_refl _) (heap_alloc_last W _) ((Below.refl _ W).alloc (Nat.le_refl _) _)
theorem st_store {p q : Nat} {b : Nat} {u v : Pw} (hg : o.guard = none) (hop : o.op = .store 26 (.tmp p) (.tmp q)) (hp : (a.tmps[p]?).getD undef = .pointer (some ⟨b, 0, none⟩))
    (hq : (a.tmps[q]?).getD undef = .agg #[.complex .f64 v.pos.re v.pos.im, .complex .f64 v.hd.re v.hd.im, .int .i64 v.st, .complex .f64 v.lo.re v.lo.im, .complex .f64 v.hi.re v.hi.im])
    (hb : W.heap[b]? = some (.cells (pcs u) 26 (0, 0))) (hd : o.dst = none)
    (h : ∀ wn, wn.heap[b]? = some (.cells (pcs v) 26 (0, 0)) → W.grownBy wn (some b) → K a wn) :
    if Region.wanted o (yielded ops a.tmps) = true then Oper.wp Try.prog o a W K Q else E := by
  have hw : Region.wanted o (yielded ops a.tmps) = true := by simp [Region.wanted, hg]
  rw [if_pos hw]
  obtain ⟨⟨d0, d1, d2, d3, d4⟩, f0, f1, f2, f3, f4⟩ := row5 hb
  unfold Oper.wp
  simp [execOp, hop, go_sem, hp, hq, hd, d0, d1, d2, d3, d4, f0, f1, f2, f3, f4]
  exact h _ (set5_row (q := v) hb) (set5_grown W b v)
theorem row4 {w : World} {b : Nat} {x0 x1 x2 x3 : Value} {t : TypeId} (h : w.heap[b]? = some (.cells #[x0, x1, x2, x3] t (0, 0))) :
    w.cell? ⟨b, 0, none⟩ = some x0 ∧ w.cell? ⟨b, 1, none⟩ = some x1 ∧ w.cell? ⟨b, 2, none⟩ = some x2 ∧ w.cell? ⟨b, 3, none⟩ = some x3 :=
  ⟨(cells_in h 0 rfl).1, (cells_in h 1 rfl).1, (cells_in h 2 rfl).1, (cells_in h 3 rfl).1⟩
theorem trow_cells {W : World} {A : Option Addr} {l : List Trd} (h : TRow W A l) : ∀ b, A = some b → ∀ j u, (tCells l)[j]? = some u → W.cell? (b.add j) = some u := by
  rintro b rfl j u hj
  have hlt : j < (tCells l).length := (List.getElem?_eq_some_iff.1 hj).1
  rw [tCells_len] at hlt
  obtain ⟨a, e, _, hc⟩ := h (by omega)
  injection e with e
  subst e
  obtain ⟨c0, c1, c2, c3⟩ := hc (j / 4) (by omega)
  obtain ⟨d0, d1, d2, d3⟩ := tCells_at l (j / 4) (by omega)
  rw [tadd] at c1 c2 c3
  have hm : j = j / 4 * 4 ∨ j = j / 4 * 4 + 1 ∨ j = j / 4 * 4 + 2 ∨ j = j / 4 * 4 + 3 := by omega
  rcases hm with e | e | e | e
  · rw [e] at hj ⊢; rw [d0] at hj; rw [c0]; exact hj
  · rw [e] at hj ⊢; rw [d1] at hj; rw [c1]; exact hj
  · rw [e] at hj ⊢; rw [d2] at hj; rw [c2]; exact hj
  · rw [e] at hj ⊢; rw [d3] at hj; rw [c3]; exact hj
theorem trow_snoc {w : World} {B : Nat} {T : TypeId} {v : Value} {l : List Trd} {t : Trd} (h : w.ownsRow B T 4 v (l.length + 1) (tCells l ++ [.int .u64 t.maker, .int .u64 t.taker, .int .i64 t.price, .int .i64 t.size])) :
    ∃ A c, v = .slice A (l.length + 1) c ∧ TRow w A (l ++ [t]) := by
  have h' : w.ownsRow B T 4 v (l ++ [t]).length (tCells (l ++ [t])) := by rw [tCells_snoc, List.length_append]; exact h
  obtain ⟨A, c, e, r⟩ := trow_of h'
  exact ⟨A, c, by rw [e, List.length_append]; rfl, r⟩
theorem below_grown0 {W wn : World} (h : W.grownBy wn none) : Below W.heap.size W wn := ⟨h.os, h.tape, h.output, h.size, fun k hk => h.block k hk (by simp)⟩
theorem below_grown1 {w6 W wn : World} {b : Nat} (hs : Below w6.heap.size w6 W) (h : W.grownBy wn (some b)) (hb : w6.heap.size ≤ b) : Below w6.heap.size w6 wn :=
  hs.trans ⟨h.os, h.tape, h.output, h.size, fun k hk => h.block k (Nat.lt_of_lt_of_le hk hs.size) (fun e => by injection e with e; omega)⟩
theorem keep_other {W wn : World} {b k : Nat} {ob : Obj} (h : W.heap[k]? = some ob) (hg : W.grownBy wn (some b)) (hne : k ≠ b) : wn.heap[k]? = some ob :=
  (hg.block k (Array.getElem?_eq_some_iff.1 h).1 (fun e => by injection e with e; exact hne e)).trans h
theorem slice_full (A : Option Addr) (n c : Nat) (hc : n ≤ c) (W : World) : (Instr.slice 22 (.slice A n c) none (some (.int .i64 (n : Int))) (some (.int .i64 (n : Int)))).run Try.prog W = .ok (.slice A n n) W := by
  have hu : Try.prog.underlying 22 = some (.slice (Try.prog.elem 22)) := by kernel_rfl
  rw [run_slice_hm (P := Try.prog) (ht := hu) (w := W) (h0 := by omega) (h2 := by omega) (h3 := by omega)]
  obtain ⟨i, hi⟩ : ∃ i, Try.prog.info? (Try.prog.elem 22) = some i := ⟨_, rfl⟩
  simp [sizeOf, typeInfo, hi, sliced, Addr.add]
end Go.Proofs.Ytligdamibjclnaa.Wk
