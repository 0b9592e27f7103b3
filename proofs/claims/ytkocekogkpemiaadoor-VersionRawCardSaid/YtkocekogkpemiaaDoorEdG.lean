/-
  The Go text of edits, walked: what is read of a number of files, a level, a file. Conditions: as each theorem states.
-/
import Derived.Test.YtkocekogkpemiaaDoorEdF
namespace Go.Proofs.YtkocekogkpemiaaDoor.Ed
open Go.RowKit
open Go.Proofs.YtkocekogkpemiaaDoor
open Vi Ba

abbrev Rd (W : World) (a : Nat) (s : ByteArray) (p : Pt) : Prop := RdAt 115 W a s p.1 p.2
abbrev RdP (w : World) (a : Nat) (s : ByteArray) (v : Value) (p : Pt) (e : Ending) (w' : World) : Prop := e = .returned v ∧ Rd w' a s p ∧ w.grownBy w' (some a)
theorem num_rd {w : World} {a : Nat} {s : ByteArray} {p : Pt} (h : Rd w a s p) (hs : s.size ≤ 1000000) (ha : p.1 ≤ s.size) :
    Calls Tryd.prog 49 #[.pointer (some ⟨a, 0, none⟩)] w (RdP w a s (.int .u64 (nx s.data.toList p).1) (nx s.data.toList p).2) := rnum_any h hs ha
theorem text_rd {w : World} {a : Nat} {s : ByteArray} {p : Pt} (h : Rd w a s p) (hs : s.size ≤ 1000000) (ha : p.1 ≤ s.size) :
    Calls Tryd.prog 61 #[.pointer (some ⟨a, 0, none⟩), .int .i64 200] w (RdP w a s (.string (bs (tx s.data.toList p).1)) (tx s.data.toList p).2) := rtext_any 200 (by decide) h hs ha
theorem files_rd {w : World} {a : Nat} {s : ByteArray} {p : Pt} (h : Rd w a s p) (hs : s.size ≤ 1000000) (ha : p.1 ≤ s.size) :
    Calls Tryd.prog 50 #[.pointer (some ⟨a, 0, none⟩)] w (RdP w a s (.int .u64 (rdN s.data.toList p).1) (rdN s.data.toList p).2) := by
  have HN := Lib.hid (num_rd h hs ha)
  have hlt := nx_lt s.data.toList p
  by_cases h2 : 200 < (nx s.data.toList p).1
  · have e : rdN s.data.toList p = (0, dFail (nx s.data.toList p).2.1 (nx s.data.toList p).2.2 6) := if_pos h2
    rw [e]
    have HF := Lib.hid fun (W : World) (h : Rd W a s (nx s.data.toList p).2) => fail_any 6 h
    clear h e
    generalize nx s.data.toList p = q at *
    obtain ⟨n, q⟩ := q
    simp only at *
    go_enter Tryd.func50, Tryd.ntmps50
    go_wp2_with (first
      | (go_at_call 49; (with_reducible refine HN.out.mono ?_); rintro e w2 ⟨rfl, h2, g2⟩; have R2 := Lib.hid (And.intro h2 g2); clear h2 g2)
      | (go_at_call 60; (with_reducible refine (HF.out _ R2.out.1).mono ?_); rintro e w3 ⟨rfl, h3, g3⟩))
    go_ret
    exact ⟨rfl, h3, R2.out.2.trans g3⟩
  · have e : rdN s.data.toList p = nx s.data.toList p := if_neg h2
    rw [e]
    clear h e
    generalize nx s.data.toList p = q at *
    obtain ⟨n, q⟩ := q
    simp only at *
    go_enter Tryd.func50, Tryd.ntmps50
    go_wp2_with (go_at_call 49; (with_reducible refine HN.out.mono ?_); rintro e w2 ⟨rfl, h2, g2⟩)
    go_ret
    exact ⟨rfl, h2, g2⟩
theorem level_rd {w : World} {a : Nat} {s : ByteArray} {p : Pt} (h : Rd w a s p) (hs : s.size ≤ 1000000) (ha : p.1 ≤ s.size) :
    Calls Tryd.prog 51 #[.pointer (some ⟨a, 0, none⟩)] w (RdP w a s (.int .i64 (rdV s.data.toList p).1) (rdV s.data.toList p).2) := by
  have HN := Lib.hid (num_rd h hs ha)
  have hlt := nx_lt s.data.toList p
  by_cases h2 : 4 ≤ (nx s.data.toList p).1
  · have e : rdV s.data.toList p = (0, dFail (nx s.data.toList p).2.1 (nx s.data.toList p).2.2 21) := if_pos h2
    rw [e]
    have HF := Lib.hid fun (W : World) (h : Rd W a s (nx s.data.toList p).2) => fail_any 21 h
    clear h e
    generalize nx s.data.toList p = q at *
    obtain ⟨n, q⟩ := q
    simp only at *
    go_enter Tryd.func51, Tryd.ntmps51
    go_wp2_with (first
      | (go_at_call 49; (with_reducible refine HN.out.mono ?_); rintro e w2 ⟨rfl, h2, g2⟩; have R2 := Lib.hid (And.intro h2 g2); clear h2 g2)
      | (go_at_call 60; (with_reducible refine (HF.out _ R2.out.1).mono ?_); rintro e w3 ⟨rfl, h3, g3⟩))
    go_ret
    exact ⟨rfl, h3, R2.out.2.trans g3⟩
  · have e : rdV s.data.toList p = nx s.data.toList p := if_neg h2
    rw [e]
    clear h e
    generalize nx s.data.toList p = q at *
    obtain ⟨n, q⟩ := q
    simp only at *
    go_enter Tryd.func51, Tryd.ntmps51
    go_wp2_with (go_at_call 49; (with_reducible refine HN.out.mono ?_); rintro e w2 ⟨rfl, h2, g2⟩)
    go_ret
    exact ⟨rfl, h2, g2⟩
/-- a reader, the answer's box and what was there, behind some calls -/
structure RS (t : TypeId) (w : World) (a : Nat) (s : ByteArray) (c : Array Value) (p : Pt) (W : World) : Prop where
  rd : Rd W a s p
  box : W.heap[w.heap.size]? = some (.cells c t (0, 0))
  grown : w.grownBy W (some a)
  lt : a < w.heap.size
theorem rs_size {t : TypeId} {w : World} {a : Nat} {s : ByteArray} {c : Array Value} {p : Pt} {W : World} (h : RS t w a s c p W) : w.heap.size < W.heap.size := (Array.getElem?_eq_some_iff.1 h.box).1
theorem rs_start {t : TypeId} {w : World} {a : Nat} {s : ByteArray} {p : Pt} (h : Rd w a s p) (c : Array Value) : RS t w a s c p (w.alloc (.cells c t (0, 0))) :=
  have hb : Below w.heap.size w (w.alloc (.cells c t (0, 0))) := (Below.refl _ _).alloc (Nat.le_refl _) _
  ⟨by unfold Rd RdAt; rw [hb.block a (rd_lt h)]; exact h, heap_alloc_new _ _, grown_below hb _, rd_lt h⟩
theorem rs_post {t : TypeId} {w : World} {a : Nat} {s : ByteArray} {c : Array Value} {p q : Pt} {W W' : World} (h : RS t w a s c p W) (h1 : Rd W' a s q) (hg : W.grownBy W' (some a)) : RS t w a s c q W' :=
  ⟨h1, (hg.block _ (rs_size h) (fun e => by have := h.lt; injection e with e; omega)).trans h.box, h.grown.trans hg, h.lt⟩
theorem cells5 {g : Nat} {t : TypeId} {wr : World} {x0 x1 x2 x3 x4 : Value} (h : wr.heap[g]? = some (.cells #[x0, x1, x2, x3, x4] t (0, 0))) :
    (wr.cell? ⟨g, 0, none⟩ = some x0 ∧ wr.cell? ⟨g, 1, none⟩ = some x1 ∧ wr.cell? ⟨g, 2, none⟩ = some x2 ∧ wr.cell? ⟨g, 3, none⟩ = some x3 ∧ wr.cell? ⟨g, 4, none⟩ = some x4) ∧ ∀ j, wr.frozen? ⟨g, j, none⟩ = false :=
  ⟨⟨cell_in h 0 _ rfl, cell_in h 1 _ rfl, cell_in h 2 _ rfl, cell_in h 3 _ rfl, cell_in h 4 _ rfl⟩, free_in h⟩
theorem row_sets5 {g : Nat} {t : TypeId} {wr : World} {x0 x1 x2 x3 x4 : Value} (h : wr.heap[g]? = some (.cells #[x0, x1, x2, x3, x4] t (0, 0))) (v0 v1 v2 v3 v4 : Value) :
    (((((wr.setCell ⟨g, 0, none⟩ v0).setCell ⟨g, 1, none⟩ v1).setCell ⟨g, 2, none⟩ v2).setCell ⟨g, 3, none⟩ v3).setCell ⟨g, 4, none⟩ v4).heap[g]? = some (.cells #[v0, v1, v2, v3, v4] t (0, 0)) := by
  rw [heap_set (heap_set (heap_set (heap_set (heap_set h 0 v0) 1 v1) 2 v2) 3 v3) 4 v4]; rfl
theorem rs_out {t : TypeId} {w : World} {a : Nat} {s : ByteArray} {c : Array Value} {p : Pt} {W W' : World} (h : RS t w a s c p W) (hg : W.grownBy W' (some w.heap.size)) : Rd W' a s p ∧ w.grownBy W' (some a) := by
  have hlt := h.lt
  have hsz := h.grown.size
  have e : W'.heap[a]? = W.heap[a]? := hg.block a (rd_lt h.rd) (fun e => by injection e with e; omega)
  refine ⟨?_, hg.os.trans h.grown.os, hg.tape.trans h.grown.tape, hg.output.trans h.grown.output, Nat.le_trans hsz hg.size, fun j hj hne => (hg.block j (by omega) (fun e => by injection e with e; omega)).trans (h.grown.block j hj hne)⟩
  unfold Rd RdAt
  rw [e]
  exact h.rd
theorem rs_end {t : TypeId} {w : World} {a : Nat} {s : ByteArray} {c : Array Value} {p : Pt} {W : World} (h : RS t w a s c p W) (v0 v1 v2 v3 v4 : Value) :
    Rd (((((W.setCell ⟨w.heap.size, 0, none⟩ v0).setCell ⟨w.heap.size, 1, none⟩ v1).setCell ⟨w.heap.size, 2, none⟩ v2).setCell ⟨w.heap.size, 3, none⟩ v3).setCell ⟨w.heap.size, 4, none⟩ v4) a s p ∧ w.grownBy (((((W.setCell ⟨w.heap.size, 0, none⟩ v0).setCell ⟨w.heap.size, 1, none⟩ v1).setCell ⟨w.heap.size, 2, none⟩ v2).setCell ⟨w.heap.size, 3, none⟩ v3).setCell ⟨w.heap.size, 4, none⟩ v4) (some a) :=
  rs_out h ((grown_set W w.heap.size 0 v0).trans ((grown_set _ w.heap.size 1 v1).trans ((grown_set _ w.heap.size 2 v2).trans ((grown_set _ w.heap.size 3 v3).trans (grown_set _ w.heap.size 4 v4)))))
theorem ret_five {f : Func} {t : TypeId} (ht : t = 34) (hf : f.results = #[.cell 2 t]) {R : Ending → World → Prop} {a : Act} {wf : World} {x0 x1 x2 x3 x4 : Value} {g : Nat}
    (h2 : a.tmps.getD 2 undef = .pointer (some ⟨g, 0, none⟩)) (hd : a.defers = [])
    (hrow : wf.heap[g]? = some (.cells #[x0, x1, x2, x3, x4] t (0, 0)))
    (hR : R (.returned (.agg #[x0, x1, x2, x3, x4])) wf) : bodyPost Tryd.prog f R .ret a wf := by
  subst ht
  obtain ⟨⟨k0, k1, k2, k3, k4⟩, _⟩ := cells5 hrow
  have g2 : a.tmps[2]?.getD undef = .pointer (some ⟨g, 0, none⟩) := by simpa using h2
  exact bodyPost_ret (v := .agg #[x0, x1, x2, x3, x4]) (by simp [results, hf, g2, go_sem, k0, k1, k2, k3, k4]) hd hR
def Fil5.val (f : Fil5) : Value := .agg #[.int .u64 f.number, .int .u64 f.size, .int .u64 f.count, .string f.least, .string f.most]
set_option maxHeartbeats 1000000 in
set_option maxRecDepth 100000 in
theorem file_rd {w : World} {a : Nat} {s : ByteArray} {p : Pt} (h : Rd w a s p) (hs : s.size ≤ 1000000) (ha : p.1 ≤ s.size) :
    Calls Tryd.prog 52 #[.pointer (some ⟨a, 0, none⟩)] w (RdP w a s (rdF s.data.toList p).1.val (rdF s.data.toList p).2) := by
  have R0 := rs_start (t := 34) h #[.int .u64 0, .int .u64 0, .int .u64 0, .string ⟨#[]⟩, .string ⟨#[]⟩]
  have N1 := Lib.hid (num_rd R0.rd hs ha)
  have a1 : (f1 s.data.toList p).1 ≤ s.size := nx_at ha
  have N2 := Lib.hid fun (W : World) (h : Rd W a s (f1 s.data.toList p)) => num_rd h hs a1
  have a2 : (f2 s.data.toList p).1 ≤ s.size := nx_at a1
  have N3 := Lib.hid fun (W : World) (h : Rd W a s (f2 s.data.toList p)) => num_rd h hs a2
  have a3 : (f3 s.data.toList p).1 ≤ s.size := nx_at a2
  have T4 := Lib.hid fun (W : World) (h : Rd W a s (f3 s.data.toList p)) => text_rd h hs a3
  have a4 : (f4 s.data.toList p).1 ≤ s.size := tx_at a3
  have T5 := Lib.hid fun (W : World) (h : Rd W a s (f4 s.data.toList p)) => text_rd h hs a4
  unfold rdF Fil5.val
  simp only
  have e1 : (nx s.data.toList p).2 = f1 s.data.toList p := rfl
  have e2 : (nx s.data.toList (f1 s.data.toList p)).2 = f2 s.data.toList p := rfl
  have e3 : (nx s.data.toList (f2 s.data.toList p)).2 = f3 s.data.toList p := rfl
  have e4 : (tx s.data.toList (f3 s.data.toList p)).2 = f4 s.data.toList p := rfl
  have e5 : (tx s.data.toList (f4 s.data.toList p)).2 = f5 s.data.toList p := rfl
  rw [e1] at N1
  simp only [e2, e3, e4, e5] at N2 N3 T4 T5
  generalize (nx s.data.toList p).1 = n1 at *
  generalize (nx s.data.toList (f1 s.data.toList p)).1 = n2 at *
  generalize (nx s.data.toList (f2 s.data.toList p)).1 = n3 at *
  generalize (tx s.data.toList (f3 s.data.toList p)).1 = t4 at *
  generalize (tx s.data.toList (f4 s.data.toList p)).1 = t5 at *
  clear e1 e2 e3 e4 e5 a1 a2 a3 a4
  generalize f1 s.data.toList p = q1 at *
  generalize f2 s.data.toList p = q2 at *
  generalize f3 s.data.toList p = q3 at *
  generalize f4 s.data.toList p = q4 at *
  generalize f5 s.data.toList p = q5 at *
  replace R0 := Lib.hid R0
  clear h
  go_enter Tryd.func52, Tryd.ntmps52
  go_wp2_with (first
    | (go_at_call 61; have Z := R4; (with_reducible refine (T5.out _ R4.out.rd).mono ?_); rintro e w5 ⟨rfl, h5, g5⟩; have R5 := Lib.hid (rs_post R4.out h5 g5); obtain ⟨⟨d0, d1, d2, d3, d4⟩, d5⟩ := cells5 R5.out.box; clear h5 g5)
    | (go_at_call 61; have Z := R3; (with_reducible refine (T4.out _ R3.out.rd).mono ?_); rintro e w4 ⟨rfl, h4, g4⟩; have R4 := Lib.hid (rs_post R3.out h4 g4); clear h4 g4)
    | (go_at_call 49; have Z := R2; (with_reducible refine (N3.out _ R2.out.rd).mono ?_); rintro e w3 ⟨rfl, h3, g3⟩; have R3 := Lib.hid (rs_post R2.out h3 g3); clear h3 g3)
    | (go_at_call 49; have Z := R1; (with_reducible refine (N2.out _ R1.out.rd).mono ?_); rintro e w2 ⟨rfl, h2, g2⟩; have R2 := Lib.hid (rs_post R1.out h2 g2); clear h2 g2)
    | (go_at_call 49; (with_reducible refine N1.out.mono ?_); rintro e w1 ⟨rfl, h1, g1⟩; have R1 := Lib.hid (rs_post R0.out h1 g1); clear h1 g1))
  exact ret_five rfl rfl rfl rfl (row_sets5 R5.out.box _ _ _ _ _) ⟨rfl, rs_end R5.out _ _ _ _ _⟩
end Go.Proofs.YtkocekogkpemiaaDoor.Ed
