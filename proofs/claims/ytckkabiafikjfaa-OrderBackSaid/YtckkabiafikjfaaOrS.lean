/-
  The Go text of orders, walked: Parse. Conditions: as each theorem states.
-/
import Derived.Test.YtckkabiafikjfaaOrQ
namespace Go.Proofs.Ytckkabiafikjfaa.Odx
open Go.RowKit
open Go.Proofs.Ytckkabiafikjfaa
open Am Vi

theorem bx9_cells {W : World} {g : Nat} {x0 x1 x2 x3 x4 x5 x6 x7 x8 : Value} (h : W.heap[g]? = some (.cells #[x0, x1, x2, x3, x4, x5, x6, x7, x8] 24 (0, 0))) :
    W.cell? ⟨g, 0, none⟩ = some x0 ∧ W.cell? ⟨g, 1, none⟩ = some x1 ∧ W.cell? ⟨g, 2, none⟩ = some x2 ∧ W.cell? ⟨g, 3, none⟩ = some x3 ∧ W.cell? ⟨g, 4, none⟩ = some x4 ∧ W.cell? ⟨g, 5, none⟩ = some x5 ∧ W.cell? ⟨g, 6, none⟩ = some x6 ∧ W.cell? ⟨g, 7, none⟩ = some x7 ∧ W.cell? ⟨g, 8, none⟩ = some x8 :=
  ⟨cell_in h 0 _ rfl, cell_in h 1 _ rfl, cell_in h 2 _ rfl, cell_in h 3 _ rfl, cell_in h 4 _ rfl, cell_in h 5 _ rfl, cell_in h 6 _ rfl, cell_in h 7 _ rfl, cell_in h 8 _ rfl⟩
theorem bx9_free {W : World} {g : Nat} {x0 x1 x2 x3 x4 x5 x6 x7 x8 : Value} (h : W.heap[g]? = some (.cells #[x0, x1, x2, x3, x4, x5, x6, x7, x8] 24 (0, 0))) :
    W.frozen? ⟨g, 0, none⟩ = false ∧ W.frozen? ⟨g, 1, none⟩ = false ∧ W.frozen? ⟨g, 2, none⟩ = false ∧ W.frozen? ⟨g, 3, none⟩ = false ∧ W.frozen? ⟨g, 4, none⟩ = false ∧ W.frozen? ⟨g, 5, none⟩ = false ∧ W.frozen? ⟨g, 6, none⟩ = false ∧ W.frozen? ⟨g, 7, none⟩ = false ∧ W.frozen? ⟨g, 8, none⟩ = false :=
  ⟨free_in h 0, free_in h 1, free_in h 2, free_in h 3, free_in h 4, free_in h 5, free_in h 6, free_in h 7, free_in h 8⟩
theorem bx9_sets {W : World} {g : Nat} {x0 x1 x2 x3 x4 x5 x6 x7 x8 : Value} (h : W.heap[g]? = some (.cells #[x0, x1, x2, x3, x4, x5, x6, x7, x8] 24 (0, 0))) (v0 v1 v2 v3 v4 v5 v6 v7 v8 : Value) :
    (((((((((W.setCell ⟨g, 0, none⟩ v0).setCell ⟨g, 1, none⟩ v1).setCell ⟨g, 2, none⟩ v2).setCell ⟨g, 3, none⟩ v3).setCell ⟨g, 4, none⟩ v4).setCell ⟨g, 5, none⟩ v5).setCell ⟨g, 6, none⟩ v6).setCell ⟨g, 7, none⟩ v7).setCell ⟨g, 8, none⟩ v8).heap[g]? = some (.cells #[v0, v1, v2, v3, v4, v5, v6, v7, v8] 24 (0, 0)) := by
  have h0 : (W.setCell ⟨g, 0, none⟩ v0).heap[g]? = some (.cells #[v0, x1, x2, x3, x4, x5, x6, x7, x8] 24 (0, 0)) := heap_set h 0 v0
  have h1 : ((W.setCell ⟨g, 0, none⟩ v0).setCell ⟨g, 1, none⟩ v1).heap[g]? = some (.cells #[v0, v1, x2, x3, x4, x5, x6, x7, x8] 24 (0, 0)) := heap_set h0 1 v1
  have h2 : (((W.setCell ⟨g, 0, none⟩ v0).setCell ⟨g, 1, none⟩ v1).setCell ⟨g, 2, none⟩ v2).heap[g]? = some (.cells #[v0, v1, v2, x3, x4, x5, x6, x7, x8] 24 (0, 0)) := heap_set h1 2 v2
  have h3 : ((((W.setCell ⟨g, 0, none⟩ v0).setCell ⟨g, 1, none⟩ v1).setCell ⟨g, 2, none⟩ v2).setCell ⟨g, 3, none⟩ v3).heap[g]? = some (.cells #[v0, v1, v2, v3, x4, x5, x6, x7, x8] 24 (0, 0)) := heap_set h2 3 v3
  have h4 : (((((W.setCell ⟨g, 0, none⟩ v0).setCell ⟨g, 1, none⟩ v1).setCell ⟨g, 2, none⟩ v2).setCell ⟨g, 3, none⟩ v3).setCell ⟨g, 4, none⟩ v4).heap[g]? = some (.cells #[v0, v1, v2, v3, v4, x5, x6, x7, x8] 24 (0, 0)) := heap_set h3 4 v4
  have h5 : ((((((W.setCell ⟨g, 0, none⟩ v0).setCell ⟨g, 1, none⟩ v1).setCell ⟨g, 2, none⟩ v2).setCell ⟨g, 3, none⟩ v3).setCell ⟨g, 4, none⟩ v4).setCell ⟨g, 5, none⟩ v5).heap[g]? = some (.cells #[v0, v1, v2, v3, v4, v5, x6, x7, x8] 24 (0, 0)) := heap_set h4 5 v5
  have h6 : (((((((W.setCell ⟨g, 0, none⟩ v0).setCell ⟨g, 1, none⟩ v1).setCell ⟨g, 2, none⟩ v2).setCell ⟨g, 3, none⟩ v3).setCell ⟨g, 4, none⟩ v4).setCell ⟨g, 5, none⟩ v5).setCell ⟨g, 6, none⟩ v6).heap[g]? = some (.cells #[v0, v1, v2, v3, v4, v5, v6, x7, x8] 24 (0, 0)) := heap_set h5 6 v6
  have h7 : ((((((((W.setCell ⟨g, 0, none⟩ v0).setCell ⟨g, 1, none⟩ v1).setCell ⟨g, 2, none⟩ v2).setCell ⟨g, 3, none⟩ v3).setCell ⟨g, 4, none⟩ v4).setCell ⟨g, 5, none⟩ v5).setCell ⟨g, 6, none⟩ v6).setCell ⟨g, 7, none⟩ v7).heap[g]? = some (.cells #[v0, v1, v2, v3, v4, v5, v6, v7, x8] 24 (0, 0)) := heap_set h6 7 v7
  have h8 : (((((((((W.setCell ⟨g, 0, none⟩ v0).setCell ⟨g, 1, none⟩ v1).setCell ⟨g, 2, none⟩ v2).setCell ⟨g, 3, none⟩ v3).setCell ⟨g, 4, none⟩ v4).setCell ⟨g, 5, none⟩ v5).setCell ⟨g, 6, none⟩ v6).setCell ⟨g, 7, none⟩ v7).setCell ⟨g, 8, none⟩ v8).heap[g]? = some (.cells #[v0, v1, v2, v3, v4, v5, v6, v7, v8] 24 (0, 0)) := heap_set h7 8 v8
  exact h8
theorem bx9_low {w W : World} {g : Nat} (h : Below g w W) (v0 v1 v2 v3 v4 v5 v6 v7 v8 : Value) : Below g w (((((((((W.setCell ⟨g, 0, none⟩ v0).setCell ⟨g, 1, none⟩ v1).setCell ⟨g, 2, none⟩ v2).setCell ⟨g, 3, none⟩ v3).setCell ⟨g, 4, none⟩ v4).setCell ⟨g, 5, none⟩ v5).setCell ⟨g, 6, none⟩ v6).setCell ⟨g, 7, none⟩ v7).setCell ⟨g, 8, none⟩ v8) := 
  (((((((((h).setCell (Nat.le_refl _) v0).setCell (Nat.le_refl _) v1).setCell (Nat.le_refl _) v2).setCell (Nat.le_refl _) v3).setCell (Nat.le_refl _) v4).setCell (Nat.le_refl _) v5).setCell (Nat.le_refl _) v6).setCell (Nat.le_refl _) v7).setCell (Nat.le_refl _) v8
theorem bx9_ret {f : Func} (hf : f.results = #[.cell 4 24, .tmp 5]) {R : Ending → World → Prop} {a : Act} {wf : World} {x0 x1 x2 x3 x4 x5 x6 x7 x8 : Value} {n : Int} {g : Nat}
    (h2 : a.tmps.getD 4 undef = .pointer (some ⟨g, 0, none⟩)) (h3 : a.tmps.getD 5 undef = .int .i64 n) (hd : a.defers = [])
    (hrow : wf.heap[g]? = some (.cells #[x0, x1, x2, x3, x4, x5, x6, x7, x8] 24 (0, 0)))
    (hR : R (.returned (.tuple #[.agg #[x0, x1, x2, x3, x4, x5, x6, x7, x8], .int .i64 n])) wf) : bodyPost Try.prog f R .ret a wf := by
  obtain ⟨k0, k1, k2, k3, k4, k5, k6, k7, k8⟩ := bx9_cells hrow
  have g2 : a.tmps[4]?.getD undef = .pointer (some ⟨g, 0, none⟩) := by simpa using h2
  have g3 : a.tmps[5]?.getD undef = .int .i64 n := by simpa using h3
  exact bodyPost_ret (v := .tuple #[.agg #[x0, x1, x2, x3, x4, x5, x6, x7, x8], .int .i64 n]) (by simp [results, hf, g2, g3, go_sem, k0, k1, k2, k3, k4, k5, k6, k7, k8]) hd hR
set_option maxHeartbeats 8000000 in
set_option maxRecDepth 100000 in
theorem parse_any (id : Nat) (s : ByteArray) (hs : s.size ≤ 1000000) (w : World) :
    Calls Try.prog 6 #[.int .u64 id, .string s] w (Ans w (.tuple #[.agg (parseO id s.data.toList).1.cells, .int .i64 (parseO id s.data.toList).2])) := by
  have O1 := Lib.hid (over_any s)
  have S1 : Hid (∀ W : World, Rd W (w.heap.size + 1) s (0, 0) → Calls Try.prog 16 #[.pointer (some ⟨w.heap.size + 1, 0, none⟩)] W (RdP W (w.heap.size + 1) s (.int .u64 (r1 s.data.toList).1) (r1 s.data.toList).2)) := fun W h => num_rd h hs (Nat.zero_le _)
  have S2 : Hid (∀ W : World, Rd W (w.heap.size + 1) s (r1 s.data.toList).2 → Calls Try.prog 17 #[.pointer (some ⟨w.heap.size + 1, 0, none⟩)] W (RdP W (w.heap.size + 1) s (.int .i64 (r2 s.data.toList).1) (r2 s.data.toList).2)) := fun W h => small_rd h hs (r1_at _)
  have S3 : Hid (∀ W : World, Rd W (w.heap.size + 1) s (r2 s.data.toList).2 → Calls Try.prog 18 #[.pointer (some ⟨w.heap.size + 1, 0, none⟩)] W (RdP W (w.heap.size + 1) s (.int .i64 (zag (r3 s.data.toList).1)) (r3 s.data.toList).2)) := fun W h => sig_rd h hs (r2_at _)
  have S4 : Hid (∀ W : World, Rd W (w.heap.size + 1) s (r3 s.data.toList).2 → Calls Try.prog 18 #[.pointer (some ⟨w.heap.size + 1, 0, none⟩)] W (RdP W (w.heap.size + 1) s (.int .i64 (zag (r4 s.data.toList).1)) (r4 s.data.toList).2)) := fun W h => sig_rd h hs (r3_at _)
  have S5 : Hid (∀ W : World, Rd W (w.heap.size + 1) s (r4 s.data.toList).2 → Calls Try.prog 18 #[.pointer (some ⟨w.heap.size + 1, 0, none⟩)] W (RdP W (w.heap.size + 1) s (.int .i64 (zag (r5 s.data.toList).1)) (r5 s.data.toList).2)) := fun W h => sig_rd h hs (r4_at _)
  have S6 : Hid (∀ W : World, Rd W (w.heap.size + 1) s (r5 s.data.toList).2 → Calls Try.prog 16 #[.pointer (some ⟨w.heap.size + 1, 0, none⟩)] W (RdP W (w.heap.size + 1) s (.int .u64 (r6 s.data.toList).1) (r6 s.data.toList).2)) := fun W h => num_rd h hs (r5_at _)
  have S7 : Hid (∀ W : World, Rd W (w.heap.size + 1) s (r6 s.data.toList).2 → Calls Try.prog 16 #[.pointer (some ⟨w.heap.size + 1, 0, none⟩)] W (RdP W (w.heap.size + 1) s (.int .u64 (r7 s.data.toList).1) (r7 s.data.toList).2)) := fun W h => num_rd h hs (r6_at _)
  have S8 : Hid (∀ W : World, Rd W (w.heap.size + 1) s (r7 s.data.toList).2 → Calls Try.prog 17 #[.pointer (some ⟨w.heap.size + 1, 0, none⟩)] W (RdP W (w.heap.size + 1) s (.int .i64 (r8 s.data.toList).1) (r8 s.data.toList).2)) := fun W h => small_rd h hs (r7_at _)
  have CF := Lib.hid (check_any (pO id s.data.toList))
  have hp := r8_at s.data.toList
  have hX : parseO id s.data.toList = if pE s.data.toList = 0 then (if chkO (pO id s.data.toList) = 0 then (pO id s.data.toList, 0) else (Odr.none, chkO (pO id s.data.toList))) else (Odr.none, pE s.data.toList) := rfl
  have hEq : pE s.data.toList = dEnd s.data.toList.length (r8 s.data.toList).2.1 (r8 s.data.toList).2.2 := rfl
  generalize parseO id s.data.toList = R at *
  generalize chkO (pO id s.data.toList) = F at *
  unfold pO Odr.cells at *
  generalize pE s.data.toList = E at *
  generalize r1 s.data.toList = q1 at *
  obtain ⟨n1, p1⟩ := q1
  generalize r2 s.data.toList = q2 at *
  obtain ⟨n2, p2⟩ := q2
  generalize r3 s.data.toList = q3 at *
  obtain ⟨n3, p3⟩ := q3
  generalize r4 s.data.toList = q4 at *
  obtain ⟨n4, p4⟩ := q4
  generalize r5 s.data.toList = q5 at *
  obtain ⟨n5, p5⟩ := q5
  generalize r6 s.data.toList = q6 at *
  obtain ⟨n6, p6⟩ := q6
  generalize r7 s.data.toList = q7 at *
  obtain ⟨n7, p7⟩ := q7
  generalize r8 s.data.toList = q8 at *
  obtain ⟨n8, p8⟩ := q8
  simp only at *
  generalize zag n3 = a3 at *
  generalize zag n4 = a4 at *
  generalize zag n5 = a5 at *
  generalize (n2 : Int) = a2 at *
  generalize (n8 : Int) = a8 at *
  have hE := hEq.symm
  clear hEq
  by_cases e0 : E = 0
  · subst e0
    rw [if_pos rfl] at hX
    by_cases f0 : F = 0
    · subst f0
      rw [if_pos rfl] at hX
      subst hX
      replace hp := Lib.hid hp
      go_enter Try.func6, Try.ntmps6
      go_wp2_with (first
      | (go_at_call 15; (with_reducible refine (O1.out _).mono ?_); rintro e w0 ⟨rfl, h0, b0⟩; have P0 := Lib.hid (ps_start h0 b0); clear h0 b0)
      | (go_at_call 16; (with_reducible refine (S1.out _ P0.out.rd).mono ?_); rintro e w1 ⟨rfl, h1, g1⟩; have P1 := Lib.hid (ps_grown P0.out h1 g1); clear h1 g1)
      | (go_at_call 17; (with_reducible refine (S2.out _ P1.out.rd).mono ?_); rintro e w2 ⟨rfl, h1, g1⟩; have P2 := Lib.hid (ps_grown P1.out h1 g1); clear h1 g1)
      | (go_at_call 18; (with_reducible refine (S3.out _ P2.out.rd).mono ?_); rintro e w3 ⟨rfl, h1, g1⟩; have P3 := Lib.hid (ps_grown P2.out h1 g1); clear h1 g1)
      | (go_at_call 18; (with_reducible refine (S4.out _ P3.out.rd).mono ?_); rintro e w4 ⟨rfl, h1, g1⟩; have P4 := Lib.hid (ps_grown P3.out h1 g1); clear h1 g1)
      | (go_at_call 18; (with_reducible refine (S5.out _ P4.out.rd).mono ?_); rintro e w5 ⟨rfl, h1, g1⟩; have P5 := Lib.hid (ps_grown P4.out h1 g1); clear h1 g1)
      | (go_at_call 16; (with_reducible refine (S6.out _ P5.out.rd).mono ?_); rintro e w6 ⟨rfl, h1, g1⟩; have P6 := Lib.hid (ps_grown P5.out h1 g1); clear h1 g1)
      | (go_at_call 16; (with_reducible refine (S7.out _ P6.out.rd).mono ?_); rintro e w7 ⟨rfl, h1, g1⟩; have P7 := Lib.hid (ps_grown P6.out h1 g1); clear h1 g1)
      | (go_at_call 17; (with_reducible refine (S8.out _ P7.out.rd).mono ?_); rintro e w8 ⟨rfl, h1, g1⟩; have PE := Lib.hid (ps2_new (ps_grown P7.out h1 g1) (.cells #[.int .u64 id, .int .u64 n1, .int .i64 a2, .int .i64 a3, .int .i64 a4, .int .i64 a5, .int .u64 n6, .int .u64 n7, .int .i64 a8] 24)); clear h1 g1)
      | (go_at_call 19; (with_reducible refine (end_rd PE.out hs hp.out).mono ?_); rintro e w18 ⟨he8, PF⟩; (first | (rw [hE] at he8; subst he8) | subst he8); replace PF := Lib.hid PF; obtain ⟨c0, c1, c2, c3, c4, c5, c6, c7, c8⟩ := bx9_cells PF.out.two; obtain ⟨d0, d1, d2, d3, d4, d5, d6, d7, d8⟩ := bx9_cells PF.out.ps.box; obtain ⟨f0, f1, f2, f3, f4, f5, f6, f7, f8⟩ := bx9_free PF.out.ps.box)
      | (go_at_call 8; (with_reducible refine (CF.out _).mono ?_); rintro e w19 ⟨rfl, b9⟩; have PG := Lib.hid (ps2_below PF.out b9); clear c0 c1 c2 c3 c4 c5 c6 c7 c8 d0 d1 d2 d3 d4 d5 d6 d7 d8 f0 f1 f2 f3 f4 f5 f6 f7 f8; obtain ⟨c0, c1, c2, c3, c4, c5, c6, c7, c8⟩ := bx9_cells PG.out.two; obtain ⟨d0, d1, d2, d3, d4, d5, d6, d7, d8⟩ := bx9_cells PG.out.ps.box; obtain ⟨f0, f1, f2, f3, f4, f5, f6, f7, f8⟩ := bx9_free PG.out.ps.box))
      exact bx9_ret rfl rfl rfl rfl (bx9_sets PG.out.ps.box _ _ _ _ _ _ _ _ _) ⟨rfl, bx9_low PG.out.ps.below _ _ _ _ _ _ _ _ _⟩
    · have k1 : (F != 0) = true := by simpa using f0
      rw [if_neg f0] at hX
      subst hX
      replace hp := Lib.hid hp
      go_enter Try.func6, Try.ntmps6
      go_wp2_with (first
      | (go_at_call 15; (with_reducible refine (O1.out _).mono ?_); rintro e w0 ⟨rfl, h0, b0⟩; have P0 := Lib.hid (ps_start h0 b0); clear h0 b0)
      | (go_at_call 16; (with_reducible refine (S1.out _ P0.out.rd).mono ?_); rintro e w1 ⟨rfl, h1, g1⟩; have P1 := Lib.hid (ps_grown P0.out h1 g1); clear h1 g1)
      | (go_at_call 17; (with_reducible refine (S2.out _ P1.out.rd).mono ?_); rintro e w2 ⟨rfl, h1, g1⟩; have P2 := Lib.hid (ps_grown P1.out h1 g1); clear h1 g1)
      | (go_at_call 18; (with_reducible refine (S3.out _ P2.out.rd).mono ?_); rintro e w3 ⟨rfl, h1, g1⟩; have P3 := Lib.hid (ps_grown P2.out h1 g1); clear h1 g1)
      | (go_at_call 18; (with_reducible refine (S4.out _ P3.out.rd).mono ?_); rintro e w4 ⟨rfl, h1, g1⟩; have P4 := Lib.hid (ps_grown P3.out h1 g1); clear h1 g1)
      | (go_at_call 18; (with_reducible refine (S5.out _ P4.out.rd).mono ?_); rintro e w5 ⟨rfl, h1, g1⟩; have P5 := Lib.hid (ps_grown P4.out h1 g1); clear h1 g1)
      | (go_at_call 16; (with_reducible refine (S6.out _ P5.out.rd).mono ?_); rintro e w6 ⟨rfl, h1, g1⟩; have P6 := Lib.hid (ps_grown P5.out h1 g1); clear h1 g1)
      | (go_at_call 16; (with_reducible refine (S7.out _ P6.out.rd).mono ?_); rintro e w7 ⟨rfl, h1, g1⟩; have P7 := Lib.hid (ps_grown P6.out h1 g1); clear h1 g1)
      | (go_at_call 17; (with_reducible refine (S8.out _ P7.out.rd).mono ?_); rintro e w8 ⟨rfl, h1, g1⟩; have PE := Lib.hid (ps2_new (ps_grown P7.out h1 g1) (.cells #[.int .u64 id, .int .u64 n1, .int .i64 a2, .int .i64 a3, .int .i64 a4, .int .i64 a5, .int .u64 n6, .int .u64 n7, .int .i64 a8] 24)); clear h1 g1)
      | (go_at_call 19; (with_reducible refine (end_rd PE.out hs hp.out).mono ?_); rintro e w18 ⟨he8, PF⟩; (first | (rw [hE] at he8; subst he8) | subst he8); replace PF := Lib.hid PF; obtain ⟨c0, c1, c2, c3, c4, c5, c6, c7, c8⟩ := bx9_cells PF.out.two; obtain ⟨d0, d1, d2, d3, d4, d5, d6, d7, d8⟩ := bx9_cells PF.out.ps.box; obtain ⟨f0, f1, f2, f3, f4, f5, f6, f7, f8⟩ := bx9_free PF.out.ps.box)
      | (go_at_call 8; (with_reducible refine (CF.out _).mono ?_); rintro e w19 ⟨rfl, b9⟩; have PG := Lib.hid (ps2_below PF.out b9); clear c0 c1 c2 c3 c4 c5 c6 c7 c8 d0 d1 d2 d3 d4 d5 d6 d7 d8 f0 f1 f2 f3 f4 f5 f6 f7 f8; obtain ⟨c0, c1, c2, c3, c4, c5, c6, c7, c8⟩ := bx9_cells PG.out.two; obtain ⟨d0, d1, d2, d3, d4, d5, d6, d7, d8⟩ := bx9_cells PG.out.ps.box; obtain ⟨f0, f1, f2, f3, f4, f5, f6, f7, f8⟩ := bx9_free PG.out.ps.box))
      exact bx9_ret rfl rfl rfl rfl (bx9_sets PG.out.ps.box _ _ _ _ _ _ _ _ _) ⟨rfl, bx9_low PG.out.ps.below _ _ _ _ _ _ _ _ _⟩
  · have k1 : (E != 0) = true := by simpa using e0
    rw [if_neg e0] at hX
    subst hX
    replace hp := Lib.hid hp
    clear CF
    go_enter Try.func6, Try.ntmps6
    go_wp2_with (first
      | (go_at_call 15; (with_reducible refine (O1.out _).mono ?_); rintro e w0 ⟨rfl, h0, b0⟩; have P0 := Lib.hid (ps_start h0 b0); clear h0 b0)
      | (go_at_call 16; (with_reducible refine (S1.out _ P0.out.rd).mono ?_); rintro e w1 ⟨rfl, h1, g1⟩; have P1 := Lib.hid (ps_grown P0.out h1 g1); clear h1 g1)
      | (go_at_call 17; (with_reducible refine (S2.out _ P1.out.rd).mono ?_); rintro e w2 ⟨rfl, h1, g1⟩; have P2 := Lib.hid (ps_grown P1.out h1 g1); clear h1 g1)
      | (go_at_call 18; (with_reducible refine (S3.out _ P2.out.rd).mono ?_); rintro e w3 ⟨rfl, h1, g1⟩; have P3 := Lib.hid (ps_grown P2.out h1 g1); clear h1 g1)
      | (go_at_call 18; (with_reducible refine (S4.out _ P3.out.rd).mono ?_); rintro e w4 ⟨rfl, h1, g1⟩; have P4 := Lib.hid (ps_grown P3.out h1 g1); clear h1 g1)
      | (go_at_call 18; (with_reducible refine (S5.out _ P4.out.rd).mono ?_); rintro e w5 ⟨rfl, h1, g1⟩; have P5 := Lib.hid (ps_grown P4.out h1 g1); clear h1 g1)
      | (go_at_call 16; (with_reducible refine (S6.out _ P5.out.rd).mono ?_); rintro e w6 ⟨rfl, h1, g1⟩; have P6 := Lib.hid (ps_grown P5.out h1 g1); clear h1 g1)
      | (go_at_call 16; (with_reducible refine (S7.out _ P6.out.rd).mono ?_); rintro e w7 ⟨rfl, h1, g1⟩; have P7 := Lib.hid (ps_grown P6.out h1 g1); clear h1 g1)
      | (go_at_call 17; (with_reducible refine (S8.out _ P7.out.rd).mono ?_); rintro e w8 ⟨rfl, h1, g1⟩; have PE := Lib.hid (ps2_new (ps_grown P7.out h1 g1) (.cells #[.int .u64 id, .int .u64 n1, .int .i64 a2, .int .i64 a3, .int .i64 a4, .int .i64 a5, .int .u64 n6, .int .u64 n7, .int .i64 a8] 24)); clear h1 g1)
      | (go_at_call 19; (with_reducible refine (end_rd PE.out hs hp.out).mono ?_); rintro e w18 ⟨he8, PF⟩; (first | (rw [hE] at he8; subst he8) | subst he8); replace PF := Lib.hid PF; obtain ⟨c0, c1, c2, c3, c4, c5, c6, c7, c8⟩ := bx9_cells PF.out.two; obtain ⟨d0, d1, d2, d3, d4, d5, d6, d7, d8⟩ := bx9_cells PF.out.ps.box; obtain ⟨f0, f1, f2, f3, f4, f5, f6, f7, f8⟩ := bx9_free PF.out.ps.box)
      | (go_at_call 8; (with_reducible refine (CF.out _).mono ?_); rintro e w19 ⟨rfl, b9⟩; have PG := Lib.hid (ps2_below PF.out b9); clear c0 c1 c2 c3 c4 c5 c6 c7 c8 d0 d1 d2 d3 d4 d5 d6 d7 d8 f0 f1 f2 f3 f4 f5 f6 f7 f8; obtain ⟨c0, c1, c2, c3, c4, c5, c6, c7, c8⟩ := bx9_cells PG.out.two; obtain ⟨d0, d1, d2, d3, d4, d5, d6, d7, d8⟩ := bx9_cells PG.out.ps.box; obtain ⟨f0, f1, f2, f3, f4, f5, f6, f7, f8⟩ := bx9_free PG.out.ps.box))
    exact bx9_ret rfl rfl rfl rfl (bx9_sets PF.out.ps.box _ _ _ _ _ _ _ _ _) ⟨rfl, bx9_low PF.out.ps.below _ _ _ _ _ _ _ _ _⟩
end Go.Proofs.Ytckkabiafikjfaa.Odx
