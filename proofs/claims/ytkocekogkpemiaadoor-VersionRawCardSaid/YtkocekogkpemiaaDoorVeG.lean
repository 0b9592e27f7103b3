/-
  The Go text of versions, walked: the calls of the example. Conditions: as each theorem states.
-/
import Derived.Test.YtkocekogkpemiaaDoorVeF
namespace Go.Proofs.YtkocekogkpemiaaDoor.Ve
open Go.RowKit
open Go.Proofs.YtkocekogkpemiaaDoor
open Vi Ba Ed

abbrev zv : Value := .agg #[.slice none 0 0, .slice none 0 0, .slice none 0 0, .slice none 0 0]
theorem files_zero (w : World) : Calls Tryd.prog 16 #[zv, .int .i64 0] w (QPost w (.slice none 0 0)) := by
  go_enter Tryd.func16, Tryd.ntmps16
  go_wp2
  go_ret
  exact ⟨rfl, (Below.refl _ _).alloc (Nat.le_refl _) _⟩
theorem clone_any (s : ByteArray) (hs : s.size ≤ 281474976710656) (w : World) : Calls Tryd.prog 28 #[.string s] w (QPost w (.string s)) := by
  have HC := Lib.hid fun W => Tryd.stringslite_Clone s W hs
  go_enter Tryd.func28, Tryd.ntmps28
  go_wp2_with (go_at_call 39; (with_reducible refine (HC.out _).mono ?_); rintro e w2 ⟨rfl, hb2⟩)
  go_ret
  exact ⟨rfl, hb2⟩
theorem index_none (f : Value) (w : World) : Calls Tryd.prog 22 #[.slice none 0 0, f] w (QPost w (.int .i64 (-1))) := by
  go_enter Tryd.func22, Tryd.ntmps22
  go_wp2
  go_loopw [8] (fun i wr => i = .int .i64 0 ∧ wr = w) (fun _ _ => 0)
  case atStart => exact ⟨rfl, rfl⟩
  case round =>
    obtain ⟨rfl, rfl⟩ := hrel
    go_wp2
    go_ret
    exact ⟨rfl, Below.refl _ _⟩
theorem cells_in {W : World} {g : Nat} {c : Array Value} {t : TypeId} (h : W.heap[g]? = some (.cells c t (0, 0))) (j : Nat) (v : Value) (hj : c[j]? = some v) : W.cell? ⟨g, j, none⟩ = some v := cell_in h j v hj
theorem third_new {W W' : World} {o : Obj} {x0 x1 x2 : Value} {t : TypeId} (hb : Below ((W.alloc o).alloc (.cells #[x0, x1, x2] t)).heap.size ((W.alloc o).alloc (.cells #[x0, x1, x2] t)) W') :
    W'.cell? ⟨W.heap.size + 1, 0, none⟩ = some x0 ∧ W'.cell? ⟨W.heap.size + 1, 1, none⟩ = some x1 ∧ W'.cell? ⟨W.heap.size + 1, 2, none⟩ = some x2 ∧ W'.frozen? ⟨W.heap.size + 1, 0, none⟩ = false ∧ W'.frozen? ⟨W.heap.size + 1, 1, none⟩ = false ∧ W'.frozen? ⟨W.heap.size + 1, 2, none⟩ = false ∧ W'.heap[W.heap.size + 1]? = some (.cells #[x0, x1, x2] t (0, 0)) := by
  have e1 : (W.alloc o).heap.size = W.heap.size + 1 := by simp
  have h : W'.heap[W.heap.size + 1]? = some (.cells #[x0, x1, x2] t (0, 0)) := by
    rw [hb.block (W.heap.size + 1) (by simp), ← e1]
    exact (MapKept.heap_alloc (W.alloc o) _).1
  exact ⟨cell_in h 0 _ rfl, cell_in h 1 _ rfl, cell_in h 2 _ rfl, free_in h 0, free_in h 1, free_in h 2, h⟩
theorem ret_pick {f : Func} (hf : f.results = #[.cell 6 38, .tmp 7]) {R : Ending → World → Prop} {a : Act} {wf : World} {x0 x1 x2 : Value} {b : Bool} {g : Nat}
    (h2 : a.tmps.getD 6 undef = .pointer (some ⟨g, 0, none⟩)) (h3 : a.tmps.getD 7 undef = .bool b) (hd : a.defers = [])
    (k0 : wf.cell? ⟨g, 0, none⟩ = some x0) (k1 : wf.cell? ⟨g, 1, none⟩ = some x1) (k2 : wf.cell? ⟨g, 2, none⟩ = some x2)
    (hR : R (.returned (.tuple #[.agg #[x0, x1, x2], .bool b])) wf) : bodyPost Tryd.prog f R .ret a wf := by
  have g2 : a.tmps[6]?.getD undef = .pointer (some ⟨g, 0, none⟩) := by simpa using h2
  have g3 : a.tmps[7]?.getD undef = .bool b := by simpa using h3
  exact bodyPost_ret (v := .tuple #[.agg #[x0, x1, x2], .bool b]) (by simp [results, hf, g2, g3, go_sem, k0, k1, k2]) hd hR
theorem ret_ver {f : Func} (hf : f.results = #[.cell 2 26]) {R : Ending → World → Prop} {a : Act} {wf : World} {x0 x1 x2 x3 : Value} {g : Nat}
    (h2 : a.tmps.getD 2 undef = .pointer (some ⟨g, 0, none⟩)) (hd : a.defers = [])
    (k0 : wf.cell? ⟨g, 0, none⟩ = some x0) (k1 : wf.cell? ⟨g, 1, none⟩ = some x1) (k2 : wf.cell? ⟨g, 2, none⟩ = some x2) (k3 : wf.cell? ⟨g, 3, none⟩ = some x3)
    (hR : R (.returned (.agg #[x0, x1, x2, x3])) wf) : bodyPost Tryd.prog f R .ret a wf := by
  have g2 : a.tmps[2]?.getD undef = .pointer (some ⟨g, 0, none⟩) := by simpa using h2
  exact bodyPost_ret (v := .agg #[x0, x1, x2, x3]) (by simp [results, hf, g2, go_sem, k0, k1, k2, k3]) hd hR
theorem ret_ver2 {f : Func} (hf : f.results = #[.cell 4 26, .tmp 5]) {R : Ending → World → Prop} {a : Act} {wf : World} {x0 x1 x2 x3 : Value} {n : Int} {g : Nat}
    (h2 : a.tmps.getD 4 undef = .pointer (some ⟨g, 0, none⟩)) (h3 : a.tmps.getD 5 undef = .int .i64 n) (hd : a.defers = [])
    (k0 : wf.cell? ⟨g, 0, none⟩ = some x0) (k1 : wf.cell? ⟨g, 1, none⟩ = some x1) (k2 : wf.cell? ⟨g, 2, none⟩ = some x2) (k3 : wf.cell? ⟨g, 3, none⟩ = some x3)
    (hR : R (.returned (.tuple #[.agg #[x0, x1, x2, x3], .int .i64 n])) wf) : bodyPost Tryd.prog f R .ret a wf := by
  have g2 : a.tmps[4]?.getD undef = .pointer (some ⟨g, 0, none⟩) := by simpa using h2
  have g3 : a.tmps[5]?.getD undef = .int .i64 n := by simpa using h3
  exact bodyPost_ret (v := .tuple #[.agg #[x0, x1, x2, x3], .int .i64 n]) (by simp [results, hf, g2, g3, go_sem, k0, k1, k2, k3]) hd hR
theorem pick_zero (w : World) : Calls Tryd.prog 8 #[zv, .int .i64 0, .int .i64 0] w (QPost w (.tuple #[.agg #[.int .i64 0, .slice none 0 0, .slice none 0 0], .bool false])) := by
  have HF := Lib.hid files_zero
  go_enter Tryd.func8, Tryd.ntmps8
  go_wp2_with (go_at_call 16; (with_reducible refine (HF.out _).mono ?_); rintro e w2 ⟨rfl, hb2⟩; obtain ⟨k0, k1, k2, f0, f1, f2, hh⟩ := third_new hb2; have HH := Lib.hid hh; have B2 := Lib.hid (two_then hb2); clear hb2 hh)
  have H3 := heap_set (heap_set (heap_set HH.out 0 (.int .i64 0)) 1 (.slice none 0 0)) 2 (.slice none 0 0)
  exact ret_pick rfl rfl rfl rfl (cell_in H3 0 _ rfl) (cell_in H3 1 _ rfl) (cell_in H3 2 _ rfl) ⟨rfl, ((B2.out.setCell (by simp) _).setCell (by simp) _).setCell (by simp) _⟩
theorem blk_on {w1 w2 w3 : World} {g : Nat} {o : Obj} (h : w1.heap[g]? = some o) (hb2 : Below w1.heap.size w1 w2) (hb3 : Below w2.heap.size w2 w3) : w3.heap[g]? = some o := by
  have h1 := (Array.getElem?_eq_some_iff.1 h).1
  exact (hb3.block g (by have := hb2.size; omega)).trans ((hb2.block g h1).trans h)
theorem heap_far {W : World} {g : Nat} {o : Obj} (h : W.heap[g]? = some o) (b j : Nat) (v : Value) (hne : b ≠ g) : (W.setCell ⟨b, j, none⟩ v).heap[g]? = some o := by
  rw [RowKit.Below.heap_setCell _ _ _ _ (by exact Ne.symm hne)]; exact h
structure OS (w : World) (n s c : Nat) (l m : ByteArray) (W : World) : Prop where
  a : W.heap[w.heap.size]? = some (.cells #[.int .u64 n, .int .u64 s, .int .u64 c, .string l, .string m] 34 (0, 0))
  b : W.heap[w.heap.size + 1]? = some (.cells #[.int .u64 0, .int .u64 0, .int .u64 0, .string ⟨#[]⟩, .string ⟨#[]⟩] 34 (0, 0))
  below : Below w.heap.size w W
theorem os_on {w : World} {n s c : Nat} {l m : ByteArray} {W W' : World} (h : OS w n s c l m W) (hb : Below W.heap.size W W') : OS w n s c l m W' :=
  ⟨(hb.block _ (Array.getElem?_eq_some_iff.1 h.a).1).trans h.a, (hb.block _ (Array.getElem?_eq_some_iff.1 h.b).1).trans h.b, h.below.trans (hb.mono h.below.size)⟩
theorem os_l {w : World} {n s c : Nat} {l m : ByteArray} {W : World} (h : OS w n s c l m W) : OS w n s c l m (W.setCell ⟨w.heap.size, 3, none⟩ (.string l)) :=
  ⟨heap_set h.a 3 (.string l), heap_far h.b _ _ _ (by omega), h.below.setCell (Nat.le_refl _) _⟩
theorem os_m {w : World} {n s c : Nat} {l m : ByteArray} {W : World} (h : OS w n s c l m W) : OS w n s c l m (W.setCell ⟨w.heap.size, 4, none⟩ (.string m)) :=
  ⟨heap_set h.a 4 (.string m), heap_far h.b _ _ _ (by omega), h.below.setCell (Nat.le_refl _) _⟩
theorem os_start (w : World) (n s c : Nat) (l m : ByteArray) : OS w n s c l m ((w.alloc (.cells #[.int .u64 n, .int .u64 s, .int .u64 c, .string l, .string m] 34)).alloc (.cells #[.int .u64 0, .int .u64 0, .int .u64 0, .string ⟨#[]⟩, .string ⟨#[]⟩] 34)) := by
  have hn0 : ((w.alloc (.cells #[.int .u64 n, .int .u64 s, .int .u64 c, .string l, .string m] 34)).alloc (.cells #[.int .u64 0, .int .u64 0, .int .u64 0, .string ⟨#[]⟩, .string ⟨#[]⟩] 34)).heap[w.heap.size]? = some (.cells #[.int .u64 n, .int .u64 s, .int .u64 c, .string l, .string m] 34 (0, 0)) := by
    rw [(MapKept.heap_alloc (w.alloc _) _).2 w.heap.size (by simp)]
    exact (MapKept.heap_alloc w _).1
  have hn1 : ((w.alloc (.cells #[.int .u64 n, .int .u64 s, .int .u64 c, .string l, .string m] 34)).alloc (.cells #[.int .u64 0, .int .u64 0, .int .u64 0, .string ⟨#[]⟩, .string ⟨#[]⟩] 34)).heap[w.heap.size + 1]? = some (.cells #[.int .u64 0, .int .u64 0, .int .u64 0, .string ⟨#[]⟩, .string ⟨#[]⟩] 34 (0, 0)) := by
    rw [show w.heap.size + 1 = (w.alloc (.cells #[.int .u64 n, .int .u64 s, .int .u64 c, .string l, .string m] 34)).heap.size by simp]
    exact (MapKept.heap_alloc (w.alloc _) _).1
  have hbw := two_new w (.cells #[.int .u64 n, .int .u64 s, .int .u64 c, .string l, .string m] 34) (.cells #[.int .u64 0, .int .u64 0, .int .u64 0, .string ⟨#[]⟩, .string ⟨#[]⟩] 34)
  exact ⟨hn0, hn1, hbw⟩
theorem os_drew {w : World} {n s c : Nat} {l m : ByteArray} {W : World} (h : OS w n s c l m W) : OS w n s c l m W.drew := ⟨h.a, h.b, drewn h.below⟩
theorem below_sets5 {w W : World} (h : Below w.heap.size w W) {v0 v1 v2 v3 v4 : Value} : Below w.heap.size w (sets5 W (w.heap.size + 1) v0 v1 v2 v3 v4) :=
  ((((h.setCell (by simp) _).setCell (by simp) _).setCell (by simp) _).setCell (by simp) _).setCell (by simp) _
theorem own_end {w : World} {n s c : Nat} {l m : ByteArray} {W : World} (h : OS w n s c l m W) :
    OS w n s c l m W ∧ W.cell? ⟨w.heap.size, 0, none⟩ = some (.int .u64 n) ∧ W.cell? ⟨w.heap.size, 1, none⟩ = some (.int .u64 s) ∧ W.cell? ⟨w.heap.size, 2, none⟩ = some (.int .u64 c) ∧ W.cell? ⟨w.heap.size, 3, none⟩ = some (.string l) ∧ W.cell? ⟨w.heap.size, 4, none⟩ = some (.string m) ∧
    W.cell? ⟨w.heap.size + 1, 0, none⟩ = some (.int .u64 0) ∧ W.cell? ⟨w.heap.size + 1, 1, none⟩ = some (.int .u64 0) ∧ W.cell? ⟨w.heap.size + 1, 2, none⟩ = some (.int .u64 0) ∧ W.cell? ⟨w.heap.size + 1, 3, none⟩ = some (.string ⟨#[]⟩) ∧ W.cell? ⟨w.heap.size + 1, 4, none⟩ = some (.string ⟨#[]⟩) ∧
    ∀ j, W.frozen? ⟨w.heap.size + 1, j, none⟩ = false :=
  ⟨h, cell_in h.a 0 _ rfl, cell_in h.a 1 _ rfl, cell_in h.a 2 _ rfl, cell_in h.a 3 _ rfl, cell_in h.a 4 _ rfl, cell_in h.b 0 _ rfl, cell_in h.b 1 _ rfl, cell_in h.b 2 _ rfl, cell_in h.b 3 _ rfl, cell_in h.b 4 _ rfl, fun j => free_in h.b j⟩
theorem own_any (x : Fil) (hl : x.least.size ≤ 281474976710656) (hm : x.most.size ≤ 281474976710656) (w : World) : Calls Tryd.prog 17 #[fval x] w (QPost w (fval x)) := by
  obtain ⟨v, n, s, c, l, m⟩ := x
  have HA := Lib.hid (clone_any l hl)
  have HB := Lib.hid (clone_any m hm)
  clear hl hm
  unfold fval
  simp only
  go_enter Tryd.func17, Tryd.ntmps17
  go_wp2
  have O1 := Lib.hid (os_start w n s c l m)
  generalize ((w.alloc (.cells #[.int .u64 n, .int .u64 s, .int .u64 c, .string l, .string m] 34)).alloc (.cells #[.int .u64 0, .int .u64 0, .int .u64 0, .string ⟨#[]⟩, .string ⟨#[]⟩] 34)) = w1 at *
  refine wp_region_noPanic ?_
  refine wp_region_held_drew (S := (fun wx => OS w n s c l m wx)) (by kernel_rfl) (os_drew O1.out) (fun HS => ?_)
  refine wpAnyH_take (S := (fun wx => OS w n s c l m wx)) (i := 0) (oi := { dst := some 3, op := Go.Op.fieldAddr 34 (Go.Operand.tmp 1) 3, type := 0, pos := "version.go:227", after := #[], guard := none }) (v := ?v0) rfl (by kernel_rfl) (by kernel_rfl) (by kernel_rfl) (fun _ _ _ h => h) (Or.inl ⟨by rfl, ?y0⟩) HS ?r0
  case y0 => (intro wx hSw; have s3 := cell_in hSw.a 3 _ rfl; have s4 := cell_in hSw.a 4 _ rfl; go_simp; first | done | with_reducible rfl | skip)
  try simp only [Act.put, List.setIfInBounds_toArray, List.set_cons_zero, List.set_cons_succ]
  refine wpAnyH_take (S := (fun wx => OS w n s c l m wx)) (i := 1) (oi := { dst := some 4, op := Go.Op.load 9 (Go.Operand.tmp 3), type := 9, pos := "version.go:227", after := #[{ on := 0, ground := Go.Ground.data }], guard := none }) (v := ?v1) rfl (by kernel_rfl) (by kernel_rfl) (by kernel_rfl) (fun _ _ _ h => h) (Or.inl ⟨by rfl, ?y1⟩) HS ?r1
  case y1 => (intro wx hSw; have s3 := cell_in hSw.a 3 _ rfl; have s4 := cell_in hSw.a 4 _ rfl; go_simp; first | done | with_reducible rfl | skip)
  try simp only [Act.put, List.setIfInBounds_toArray, List.set_cons_zero, List.set_cons_succ]
  refine wpAnyH_take (S := (fun wx => OS w n s c l m wx)) (i := 3) (oi := { dst := some 6, op := Go.Op.fieldAddr 34 (Go.Operand.tmp 1) 4, type := 0, pos := "version.go:227", after := #[], guard := none }) (v := ?v3) rfl (by kernel_rfl) (by kernel_rfl) (by kernel_rfl) (fun _ _ _ h => h) (Or.inl ⟨by rfl, ?y3⟩) HS ?r3
  case y3 => (intro wx hSw; have s3 := cell_in hSw.a 3 _ rfl; have s4 := cell_in hSw.a 4 _ rfl; go_simp; first | done | with_reducible rfl | skip)
  try simp only [Act.put, List.setIfInBounds_toArray, List.set_cons_zero, List.set_cons_succ]
  refine wpAnyH_take (S := (fun wx => OS w n s c l m wx)) (i := 4) (oi := { dst := some 7, op := Go.Op.load 9 (Go.Operand.tmp 6), type := 9, pos := "version.go:227", after := #[{ on := 3, ground := Go.Ground.data }], guard := none }) (v := ?v4) rfl (by kernel_rfl) (by kernel_rfl) (by kernel_rfl) (fun _ _ _ h => h) (Or.inl ⟨by rfl, ?y4⟩) HS ?r4
  case y4 => (intro wx hSw; have s3 := cell_in hSw.a 3 _ rfl; have s4 := cell_in hSw.a 4 _ rfl; go_simp; first | done | with_reducible rfl | skip)
  try simp only [Act.put, List.setIfInBounds_toArray, List.set_cons_zero, List.set_cons_succ]
  refine wpAnyH_ready (rs := [2]) (by kernel_rfl) (by simp) ?_
  refine AllReadyH.cons (o := { dst := some 5, op := Go.Op.call { callee := Go.Callee.value (Go.Operand.func 28), args := #[Go.Operand.tmp 4], argTypes := #[9] }, type := 9, pos := "version.go:227", after := #[{ on := 1, ground := Go.Ground.data }], guard := none }) rfl (fun K hK => ?_) AllReadyH.nil
  go_simp
  refine (HA.out _).mono ?_; rintro e w2 ⟨rfl, hb⟩
  refine hK.out _ _ (os_on HS hb) (fun HS => ?_)
  try simp only [Act.put, List.setIfInBounds_toArray, List.set_cons_zero, List.set_cons_succ]
  refine wpAnyH_take (S := (fun wx => OS w n s c l m wx)) (i := 6) (oi := { dst := some 9, op := Go.Op.fieldAddr 34 (Go.Operand.tmp 1) 3, type := 0, pos := "version.go:227", after := #[{ on := 0, ground := Go.Ground.phase }, { on := 1, ground := Go.Ground.phase }, { on := 2, ground := Go.Ground.phase }, { on := 3, ground := Go.Ground.phase }, { on := 4, ground := Go.Ground.phase }, { on := 5, ground := Go.Ground.textOnly Go.Departure.lateStoresUnsure }], guard := none }) (v := ?v6) rfl (by kernel_rfl) (by kernel_rfl) (by kernel_rfl) (fun _ _ _ h => h) (Or.inl ⟨by rfl, ?y6⟩) HS ?r6
  case y6 => (intro wx hSw; have s3 := cell_in hSw.a 3 _ rfl; have s4 := cell_in hSw.a 4 _ rfl; go_simp; first | done | with_reducible rfl | skip)
  try simp only [Act.put, List.setIfInBounds_toArray, List.set_cons_zero, List.set_cons_succ]
  refine wpAnyH_ready (rs := [5]) (by kernel_rfl) (by simp) ?_
  refine AllReadyH.cons (o := { dst := some 8, op := Go.Op.call { callee := Go.Callee.value (Go.Operand.func 28), args := #[Go.Operand.tmp 7], argTypes := #[9] }, type := 9, pos := "version.go:227", after := #[{ on := 4, ground := Go.Ground.data }, { on := 2, ground := Go.Ground.chain }], guard := none }) rfl (fun K hK => ?_) AllReadyH.nil
  go_simp
  refine (HB.out _).mono ?_; rintro e w3 ⟨rfl, hb⟩
  refine hK.out _ _ (os_on HS hb) (fun HS => ?_)
  try simp only [Act.put, List.setIfInBounds_toArray, List.set_cons_zero, List.set_cons_succ]
  refine wpAnyH_ready (rs := [7]) (by kernel_rfl) (by simp) ?_
  refine AllReadyH.cons (o := { dst := none, op := Go.Op.store 9 (Go.Operand.tmp 9) (Go.Operand.tmp 5), type := 0, pos := "version.go:227", after := #[{ on := 6, ground := Go.Ground.data }, { on := 2, ground := Go.Ground.data }, { on := 5, ground := Go.Ground.chain }, { on := 0, ground := Go.Ground.phase }, { on := 1, ground := Go.Ground.phase }, { on := 2, ground := Go.Ground.phase }, { on := 3, ground := Go.Ground.phase }, { on := 4, ground := Go.Ground.phase }, { on := 5, ground := Go.Ground.textOnly Go.Departure.lateStoresUnsure }], guard := none }) rfl (fun K hK => ?_) AllReadyH.nil
  have c9 := cell_in HS.a 3 _ rfl; have f9 := free_in HS.a 3
  go_simp
  clear c9 f9
  refine hK.out _ _ (os_l HS) (fun HS => ?_)
  try simp only [Act.put, List.setIfInBounds_toArray, List.set_cons_zero, List.set_cons_succ]
  refine wpAnyH_take (S := (fun wx => OS w n s c l m wx)) (i := 8) (oi := { dst := some 10, op := Go.Op.fieldAddr 34 (Go.Operand.tmp 1) 4, type := 0, pos := "version.go:227", after := #[{ on := 0, ground := Go.Ground.phase }, { on := 1, ground := Go.Ground.phase }, { on := 2, ground := Go.Ground.phase }, { on := 3, ground := Go.Ground.phase }, { on := 4, ground := Go.Ground.phase }, { on := 5, ground := Go.Ground.phase }, { on := 6, ground := Go.Ground.phase }, { on := 7, ground := Go.Ground.phase }], guard := none }) (v := ?vp8) rfl (by kernel_rfl) (by kernel_rfl) (by kernel_rfl) (fun _ _ _ h => h) (Or.inl ⟨by rfl, ?yp8⟩) HS ?rp8
  case yp8 => (intro wx hSw; have s3 := cell_in hSw.a 3 _ rfl; have s4 := cell_in hSw.a 4 _ rfl; go_simp; first | done | with_reducible rfl | skip)
  try simp only [Act.put, List.setIfInBounds_toArray, List.set_cons_zero, List.set_cons_succ]
  refine wpAnyH_ready (rs := [9]) (by kernel_rfl) (by simp) ?_
  refine AllReadyH.cons (o := { dst := none, op := Go.Op.store 9 (Go.Operand.tmp 10) (Go.Operand.tmp 8), type := 0, pos := "version.go:227", after := #[{ on := 8, ground := Go.Ground.data }, { on := 5, ground := Go.Ground.data }, { on := 7, ground := Go.Ground.chain }, { on := 0, ground := Go.Ground.phase }, { on := 1, ground := Go.Ground.phase }, { on := 2, ground := Go.Ground.phase }, { on := 3, ground := Go.Ground.phase }, { on := 4, ground := Go.Ground.phase }, { on := 5, ground := Go.Ground.phase }, { on := 6, ground := Go.Ground.phase }, { on := 7, ground := Go.Ground.phase }], guard := none }) rfl (fun K hK => ?_) AllReadyH.nil
  have c9 := cell_in HS.a 4 _ rfl; have f9 := free_in HS.a 4
  go_simp
  clear c9 f9
  refine hK.out _ _ (os_m HS) (fun HS => ?_)
  try simp only [Act.put, List.setIfInBounds_toArray, List.set_cons_zero, List.set_cons_succ]
  refine wpAnyH_done (by kernel_rfl) ?_ _
  refine NoPanic.normal ?_
  obtain ⟨O9, a0, a1, a2, a3, a4, b0, b1, b2, b3, b4, fz⟩ := own_end HS
  replace O9 := Lib.hid O9
  clear HS
  go_wp2
  exact ret_five rfl rfl rfl rfl (row_sets5 O9.out.b _ _ _ _ _) ⟨rfl, below_sets5 O9.out.below⟩
end Go.Proofs.YtkocekogkpemiaaDoor.Ve
