/-
  The Go text of orders, walked: Parse, ParseMoney. Conditions: as each theorem states.
-/
import Derived.Test.YtckkabiafikjfaaOrP
namespace Go.Proofs.Ytckkabiafikjfaa.Odx
open Go.RowKit
open Go.Proofs.Ytckkabiafikjfaa
open Am Vi

structure PS2 (w : World) (s : ByteArray) (o : Obj) (b : Nat) (o2 : Obj) (p : Pt) (W : World) : Prop where
  ps : PS w s o p W
  two : W.heap[b]? = some o2
section
variable {w W W2 : World} {s : ByteArray} {o o2 : Obj} {b : Nat} {p : Pt}
theorem ps2_new (h : PS w s o p W) (o2 : Obj) : PS2 w s o W.heap.size o2 p (W.alloc o2) := ⟨ps_alloc h o2, heap_alloc_new _ _⟩
theorem ps2_drewN (h : PS2 w s o b o2 p W) (k : Nat) : PS2 w s o b o2 p (W.drewN k) := ⟨ps_drewN h.ps k, h.two⟩
theorem ps2_below (h : PS2 w s o b o2 p W) (hb : Below W.heap.size W W2) : PS2 w s o b o2 p W2 := ⟨ps_below h.ps hb, (hb.block _ (Array.getElem?_eq_some_iff.1 h.two).1).trans h.two⟩
theorem end_rd (h : PS2 w s o b o2 p W) (hs : s.size ≤ 1000000) (hp : p.1 ≤ s.data.toList.length) :
    Calls Try.prog 19 #[.pointer (some ⟨w.heap.size + 1, 0, none⟩)] W fun e w' => e = .returned (.int .i64 (dEnd s.data.toList.length p.1 p.2)) ∧ PS2 w s o b o2 p w' :=
  (end_any h.ps.rd hs hp).mono fun e w' ⟨h1, k, h2⟩ => ⟨h1, by rw [h2]; exact ps2_drewN h k⟩
end
theorem bx2_cells {W : World} {g : Nat} {x0 x1 : Value} (h : W.heap[g]? = some (.cells #[x0, x1] 26 (0, 0))) :
    W.cell? ⟨g, 0, none⟩ = some x0 ∧ W.cell? ⟨g, 1, none⟩ = some x1 :=
  ⟨cell_in h 0 _ rfl, cell_in h 1 _ rfl⟩
theorem bx2_free {W : World} {g : Nat} {x0 x1 : Value} (h : W.heap[g]? = some (.cells #[x0, x1] 26 (0, 0))) :
    W.frozen? ⟨g, 0, none⟩ = false ∧ W.frozen? ⟨g, 1, none⟩ = false :=
  ⟨free_in h 0, free_in h 1⟩
theorem bx2_sets {W : World} {g : Nat} {x0 x1 : Value} (h : W.heap[g]? = some (.cells #[x0, x1] 26 (0, 0))) (v0 v1 : Value) :
    ((W.setCell ⟨g, 0, none⟩ v0).setCell ⟨g, 1, none⟩ v1).heap[g]? = some (.cells #[v0, v1] 26 (0, 0)) := by
  have h0 : (W.setCell ⟨g, 0, none⟩ v0).heap[g]? = some (.cells #[v0, x1] 26 (0, 0)) := heap_set h 0 v0
  have h1 : ((W.setCell ⟨g, 0, none⟩ v0).setCell ⟨g, 1, none⟩ v1).heap[g]? = some (.cells #[v0, v1] 26 (0, 0)) := heap_set h0 1 v1
  exact h1
theorem bx2_low {w W : World} {g : Nat} (h : Below g w W) (v0 v1 : Value) : Below g w ((W.setCell ⟨g, 0, none⟩ v0).setCell ⟨g, 1, none⟩ v1) := 
  ((h).setCell (Nat.le_refl _) v0).setCell (Nat.le_refl _) v1
theorem bx2_ret {f : Func} (hf : f.results = #[.cell 2 26, .tmp 3]) {R : Ending → World → Prop} {a : Act} {wf : World} {x0 x1 : Value} {n : Int} {g : Nat}
    (h2 : a.tmps.getD 2 undef = .pointer (some ⟨g, 0, none⟩)) (h3 : a.tmps.getD 3 undef = .int .i64 n) (hd : a.defers = [])
    (hrow : wf.heap[g]? = some (.cells #[x0, x1] 26 (0, 0)))
    (hR : R (.returned (.tuple #[.agg #[x0, x1], .int .i64 n])) wf) : bodyPost Try.prog f R .ret a wf := by
  obtain ⟨k0, k1⟩ := bx2_cells hrow
  have g2 : a.tmps[2]?.getD undef = .pointer (some ⟨g, 0, none⟩) := by simpa using h2
  have g3 : a.tmps[3]?.getD undef = .int .i64 n := by simpa using h3
  exact bodyPost_ret (v := .tuple #[.agg #[x0, x1], .int .i64 n]) (by simp [results, hf, g2, g3, go_sem, k0, k1]) hd hR
theorem ans_low {w W : World} (h : Below w.heap.size w W) : Below w.heap.size w W := h
set_option maxHeartbeats 2000000 in
set_option maxRecDepth 100000 in
theorem parseMoney_any (s : ByteArray) (hs : s.size ≤ 1000000) (w : World) :
    Calls Try.prog 9 #[.string s] w (Ans w (.tuple #[.agg (parseB s.data.toList).1.cells, .int .i64 (parseB s.data.toList).2])) := by
  have O1 := Lib.hid (over_any s)
  have S1 : Hid (∀ W : World, Rd W (w.heap.size + 1) s (0, 0) → Calls Try.prog 18 #[.pointer (some ⟨w.heap.size + 1, 0, none⟩)] W (RdP W (w.heap.size + 1) s (.int .i64 (zag (r1 s.data.toList).1)) (r1 s.data.toList).2)) := fun W h => sig_rd h hs (Nat.zero_le _)
  have S2 : Hid (∀ W : World, Rd W (w.heap.size + 1) s (r1 s.data.toList).2 → Calls Try.prog 18 #[.pointer (some ⟨w.heap.size + 1, 0, none⟩)] W (RdP W (w.heap.size + 1) s (.int .i64 (zag (s2 s.data.toList).1)) (s2 s.data.toList).2)) := fun W h => sig_rd h hs (r1_at _)
  have CF := Lib.hid (fits_any (pB s.data.toList) (pB_ok _))
  have hp := s2_at s.data.toList
  have hX : parseB s.data.toList = if pF s.data.toList = 0 then (if fitI (pB s.data.toList) = 0 then (pB s.data.toList, 0) else (⟨0, 0⟩, fitI (pB s.data.toList))) else (⟨0, 0⟩, pF s.data.toList) := rfl
  have hEq : pF s.data.toList = dEnd s.data.toList.length (s2 s.data.toList).2.1 (s2 s.data.toList).2.2 := rfl
  generalize parseB s.data.toList = R at *
  unfold pB Bal.cells at *
  generalize pF s.data.toList = E at *
  generalize r1 s.data.toList = q1 at *
  generalize s2 s.data.toList = q2 at *
  obtain ⟨n1, p1⟩ := q1
  obtain ⟨n2, p2⟩ := q2
  simp only at *
  generalize zag n1 = x1 at *
  generalize zag n2 = x2 at *
  generalize fitI ⟨x1, x2⟩ = F at *
  have hE := hEq.symm
  clear hEq
  by_cases e0 : E = 0
  · subst e0
    rw [if_pos rfl] at hX
    by_cases f0 : F = 0
    · subst f0
      rw [if_pos rfl] at hX
      subst hX
      replace hp := Lib.hid hp
      go_enter Try.func9, Try.ntmps9
      go_wp2_with (first
      | (go_at_call 15; (with_reducible refine (O1.out _).mono ?_); rintro e w0 ⟨rfl, h0, b0⟩; have P0 := Lib.hid (ps_start h0 b0); clear h0 b0)
      | (go_at_call 18; (with_reducible refine (S1.out _ P0.out.rd).mono ?_); rintro e w1 ⟨rfl, h1, g1⟩; have P1 := Lib.hid (ps_grown P0.out h1 g1); clear h1 g1)
      | (go_at_call 18; (with_reducible refine (S2.out _ P1.out.rd).mono ?_); rintro e w2 ⟨rfl, h1, g1⟩; have PE := Lib.hid (ps2_new (ps_grown P1.out h1 g1) (.cells #[.int .i64 x1, .int .i64 x2] 26)); clear h1 g1)
      | (go_at_call 19; (with_reducible refine (end_rd PE.out hs hp.out).mono ?_); rintro e w8 ⟨he8, PF⟩; (first | (rw [hE] at he8; subst he8) | subst he8); replace PF := Lib.hid PF; obtain ⟨c0, c1⟩ := bx2_cells PF.out.two; obtain ⟨d0, d1⟩ := bx2_cells PF.out.ps.box; obtain ⟨f0, f1⟩ := bx2_free PF.out.ps.box)
      | (go_at_call 11; (with_reducible refine (CF.out _).mono ?_); rintro e w9 ⟨rfl, b9⟩; have PG := Lib.hid (ps2_below PF.out b9); obtain ⟨c2, c3⟩ := bx2_cells PG.out.two; obtain ⟨d2, d3⟩ := bx2_cells PG.out.ps.box; obtain ⟨f2, f3⟩ := bx2_free PG.out.ps.box))
      exact bx2_ret rfl rfl rfl rfl (bx2_sets PG.out.ps.box _ _) ⟨rfl, bx2_low PG.out.ps.below _ _⟩
    · have k1 : (F != 0) = true := by simpa using f0
      rw [if_neg f0] at hX
      subst hX
      replace hp := Lib.hid hp
      go_enter Try.func9, Try.ntmps9
      go_wp2_with (first
      | (go_at_call 15; (with_reducible refine (O1.out _).mono ?_); rintro e w0 ⟨rfl, h0, b0⟩; have P0 := Lib.hid (ps_start h0 b0); clear h0 b0)
      | (go_at_call 18; (with_reducible refine (S1.out _ P0.out.rd).mono ?_); rintro e w1 ⟨rfl, h1, g1⟩; have P1 := Lib.hid (ps_grown P0.out h1 g1); clear h1 g1)
      | (go_at_call 18; (with_reducible refine (S2.out _ P1.out.rd).mono ?_); rintro e w2 ⟨rfl, h1, g1⟩; have PE := Lib.hid (ps2_new (ps_grown P1.out h1 g1) (.cells #[.int .i64 x1, .int .i64 x2] 26)); clear h1 g1)
      | (go_at_call 19; (with_reducible refine (end_rd PE.out hs hp.out).mono ?_); rintro e w8 ⟨he8, PF⟩; (first | (rw [hE] at he8; subst he8) | subst he8); replace PF := Lib.hid PF; obtain ⟨c0, c1⟩ := bx2_cells PF.out.two; obtain ⟨d0, d1⟩ := bx2_cells PF.out.ps.box; obtain ⟨f0, f1⟩ := bx2_free PF.out.ps.box)
      | (go_at_call 11; (with_reducible refine (CF.out _).mono ?_); rintro e w9 ⟨rfl, b9⟩; have PG := Lib.hid (ps2_below PF.out b9); obtain ⟨c2, c3⟩ := bx2_cells PG.out.two; obtain ⟨d2, d3⟩ := bx2_cells PG.out.ps.box; obtain ⟨f2, f3⟩ := bx2_free PG.out.ps.box))
      exact bx2_ret rfl rfl rfl rfl (bx2_sets PG.out.ps.box _ _) ⟨rfl, bx2_low PG.out.ps.below _ _⟩
  · have k1 : (E != 0) = true := by simpa using e0
    rw [if_neg e0] at hX
    subst hX
    replace hp := Lib.hid hp
    clear CF
    go_enter Try.func9, Try.ntmps9
    go_wp2_with (first
      | (go_at_call 15; (with_reducible refine (O1.out _).mono ?_); rintro e w0 ⟨rfl, h0, b0⟩; have P0 := Lib.hid (ps_start h0 b0); clear h0 b0)
      | (go_at_call 18; (with_reducible refine (S1.out _ P0.out.rd).mono ?_); rintro e w1 ⟨rfl, h1, g1⟩; have P1 := Lib.hid (ps_grown P0.out h1 g1); clear h1 g1)
      | (go_at_call 18; (with_reducible refine (S2.out _ P1.out.rd).mono ?_); rintro e w2 ⟨rfl, h1, g1⟩; have PE := Lib.hid (ps2_new (ps_grown P1.out h1 g1) (.cells #[.int .i64 x1, .int .i64 x2] 26)); clear h1 g1)
      | (go_at_call 19; (with_reducible refine (end_rd PE.out hs hp.out).mono ?_); rintro e w8 ⟨he8, PF⟩; (first | (rw [hE] at he8; subst he8) | subst he8); replace PF := Lib.hid PF; obtain ⟨c0, c1⟩ := bx2_cells PF.out.two; obtain ⟨d0, d1⟩ := bx2_cells PF.out.ps.box; obtain ⟨f0, f1⟩ := bx2_free PF.out.ps.box)
      | (go_at_call 11; (with_reducible refine (CF.out _).mono ?_); rintro e w9 ⟨rfl, b9⟩; have PG := Lib.hid (ps2_below PF.out b9); obtain ⟨c2, c3⟩ := bx2_cells PG.out.two; obtain ⟨d2, d3⟩ := bx2_cells PG.out.ps.box; obtain ⟨f2, f3⟩ := bx2_free PG.out.ps.box))
    exact bx2_ret rfl rfl rfl rfl (bx2_sets PF.out.ps.box _ _) ⟨rfl, bx2_low PF.out.ps.below _ _⟩
end Go.Proofs.Ytckkabiafikjfaa.Odx
