/-
  The law OrderBack, walked. Conditions: as each theorem states.
-/
import Derived.Test.YtckkabiafikjfaaOrS
import Derived.Test.YtckkabiafikjfaaOrC
import Derived.Deep.DeepCutAuto
import Derived.Deep.CutRange
import Derived.Deep.RegionHeldLaw
namespace Go.Proofs.Ytckkabiafikjfaa.Odx
open Go.RowKit
open Go.Proofs.Ytckkabiafikjfaa
open Am Vi

structure LW (w : World) (o : Odr) (b : Bal) (W : World) : Prop where
  ob : Box W w.heap.size o
  bb : W.heap[w.heap.size + 1]? = some (.cells b.cells 26 (0, 0))
  below : Below w.heap.size w W
structure LX (w : World) (o : Odr) (b : Bal) (k : Nat) (x : Odr) (W : World) : Prop where
  lw : LW w o b W
  kb : Box W k x
structure LM (w : World) (o : Odr) (b : Bal) (k : Nat) (m : Bal) (W : World) : Prop where
  lw : LW w o b W
  kb : W.heap[k]? = some (.cells m.cells 26 (0, 0))
structure LXM (w : World) (o : Odr) (b : Bal) (k : Nat) (x : Odr) (k2 : Nat) (m : Bal) (W : World) : Prop where
  lx : LX w o b k x W
  mb : W.heap[k2]? = some (.cells m.cells 26 (0, 0))
section
variable {w W W2 : World} {o x : Odr} {b m : Bal} {k k2 : Nat}
theorem hp_on {ob : Obj} (h : W.heap[k]? = some ob) (hb : Below W.heap.size W W2) : W2.heap[k]? = some ob := (hb.block _ (Array.getElem?_eq_some_iff.1 h).1).trans h
theorem lw_start (w : World) (o : Odr) (b : Bal) : LW w o b ((w.alloc (.cells o.cells 24)).alloc (.cells b.cells 26)) := by
  refine ⟨box_kept (box_new w o) (alloc_below _ _), ?_, (alloc_below w _).alloc (by simp) _⟩
  have := heap_alloc_new (w.alloc (.cells o.cells 24)) (.cells b.cells 26)
  rwa [show (w.alloc (.cells o.cells 24)).heap.size = w.heap.size + 1 by simp] at this
theorem lw_on (h : LW w o b W) (hb : Below W.heap.size W W2) : LW w o b W2 := ⟨box_kept h.ob hb, hp_on h.bb hb, h.below.trans (hb.mono h.below.size)⟩
theorem lw_alloc (h : LW w o b W) (ob : Obj) : LW w o b (W.alloc ob) := lw_on h (alloc_below _ _)
theorem lw_drew (h : LW w o b W) : LW w o b W.drew := ⟨h.ob, h.bb, draw_below h.below⟩
theorem lx_new (h : LW w o b W) (x : Odr) : LX w o b W.heap.size x (W.alloc (.cells x.cells 24)) := ⟨lw_alloc h _, box_new W x⟩
theorem lx_on (h : LX w o b k x W) (hb : Below W.heap.size W W2) : LX w o b k x W2 := ⟨lw_on h.lw hb, box_kept h.kb hb⟩
theorem lx_drew (h : LX w o b k x W) : LX w o b k x W.drew := ⟨lw_drew h.lw, h.kb⟩
theorem lm_new (h : LW w o b W) (m : Bal) : LM w o b W.heap.size m (W.alloc (.cells m.cells 26)) := ⟨lw_alloc h _, heap_alloc_new _ _⟩
theorem lm_on (h : LM w o b k m W) (hb : Below W.heap.size W W2) : LM w o b k m W2 := ⟨lw_on h.lw hb, hp_on h.kb hb⟩
theorem lxm_new (h : LX w o b k x W) (m : Bal) : LXM w o b k x W.heap.size m (W.alloc (.cells m.cells 26)) := ⟨lx_on h (alloc_below _ _), heap_alloc_new _ _⟩
theorem lxm_on (h : LXM w o b k x k2 m W) (hb : Below W.heap.size W W2) : LXM w o b k x k2 m W2 := ⟨lx_on h.lx hb, hp_on h.mb hb⟩
theorem lw_far (h : LW w o b W) : w.heap.size + 1 < W.heap.size := (Array.getElem?_eq_some_iff.1 h.bb).1
theorem hp_far {g j : Nat} {v : Value} {ob : Obj} (h : W.heap[k]? = some ob) (hne : g ≠ k) : (W.setCell ⟨g, j, none⟩ v).heap[k]? = some ob := by
  rw [RowKit.Below.heap_setCell _ _ _ _ (by exact Ne.symm hne)]; exact h
theorem lw_set {g j : Nat} {v : Value} (h : LW w o b W) (hg : w.heap.size + 1 < g) : LW w o b (W.setCell ⟨g, j, none⟩ v) :=
  ⟨hp_far h.ob (by omega), hp_far h.bb (by omega), h.below.setCell (by show w.heap.size ≤ g; omega) _⟩
theorem lx_sets (h : LX w o b k x W) (hg : w.heap.size + 1 < k) (y : Odr) : LX w o b k y (((((((((W.setCell ⟨k, 0, none⟩ (.int .u64 y.id)).setCell ⟨k, 1, none⟩ (.int .u64 y.account)).setCell ⟨k, 2, none⟩ (.int .i64 y.side)).setCell ⟨k, 3, none⟩ (.int .i64 y.price)).setCell ⟨k, 4, none⟩ (.int .i64 y.size)).setCell ⟨k, 5, none⟩ (.int .i64 y.left)).setCell ⟨k, 6, none⟩ (.int .u64 y.rank)).setCell ⟨k, 7, none⟩ (.int .u64 y.expiry)).setCell ⟨k, 8, none⟩ (.int .i64 y.state)) :=
  ⟨lw_set (lw_set (lw_set (lw_set (lw_set (lw_set (lw_set (lw_set (lw_set h.lw hg) hg) hg) hg) hg) hg) hg) hg) hg, bx9_sets h.kb _ _ _ _ _ _ _ _ _⟩
theorem hp_cells2 {x0 x1 : Value} (h : W.heap[k]? = some (.cells #[x0, x1] 26 (0, 0))) : W.cell? ⟨k, 0, none⟩ = some x0 ∧ W.cell? ⟨k, 1, none⟩ = some x1 := ⟨cell_in h 0 _ rfl, cell_in h 1 _ rfl⟩
end
set_option maxHeartbeats 8000000 in
set_option maxRecDepth 100000 in
theorem back_main (o0 o1 o6 o7 : Nat) (o2 o3 o4 o5 o8 : Int) (x0 x1 x6 x7 : Nat) (x2 x3 x4 x5 x8 : Int) (t0 t1 t6 t7 : Nat) (t2 t3 t4 t5 t8 : Int) (b0 b1 m0 m1 n0 n1 : Int) (s s1 s2 : ByteArray) (z e1 y f2 e3 f4 : Int) (w : World) (hs : s.size ≤ 500)
    (cBy : Hid (∀ W : World, Calls Try.prog 7 #[.agg #[.int .u64 o0, .int .u64 o1, .int .i64 o2, .int .i64 o3, .int .i64 o4, .int .i64 o5, .int .u64 o6, .int .u64 o7, .int .i64 o8]] W (Ans W (.string s1)))) (cPa : Hid (∀ W : World, Calls Try.prog 6 #[.int .u64 o0, .string s1] W (Ans W (.tuple #[.agg #[.int .u64 x0, .int .u64 x1, .int .i64 x2, .int .i64 x3, .int .i64 x4, .int .i64 x5, .int .u64 x6, .int .u64 x7, .int .i64 x8], .int .i64 e1])))) (cCk : Hid (∀ W : World, Calls Try.prog 8 #[.agg #[.int .u64 o0, .int .u64 o1, .int .i64 o2, .int .i64 o3, .int .i64 o4, .int .i64 o5, .int .u64 o6, .int .u64 o7, .int .i64 o8]] W (Ans W (.int .i64 z))))
    (h1 : Hid (z = 0 → (⟨x0, x1, x2, x3, x4, x5, x6, x7, x8⟩ : Odr) = ⟨o0, o1, o2, o3, o4, o5, o6, o7, o8⟩ ∧ e1 = 0))
    (cMo : Hid (∀ W : World, Calls Try.prog 10 #[.agg #[.int .i64 b0, .int .i64 b1]] W (Ans W (.string s2)))) (cPm : Hid (∀ W : World, Calls Try.prog 9 #[.string s2] W (Ans W (.tuple #[.agg #[.int .i64 m0, .int .i64 m1], .int .i64 f2])))) (cFi : Hid (∀ W : World, Calls Try.prog 11 #[.agg #[.int .i64 b0, .int .i64 b1]] W (Ans W (.int .i64 y))))
    (h2 : Hid (y = 0 → (⟨m0, m1⟩ : Bal) = ⟨b0, b1⟩ ∧ f2 = 0))
    (cP3 : Hid (∀ W : World, Calls Try.prog 6 #[.int .u64 7, .string s] W (Ans W (.tuple #[.agg #[.int .u64 t0, .int .u64 t1, .int .i64 t2, .int .i64 t3, .int .i64 t4, .int .i64 t5, .int .u64 t6, .int .u64 t7, .int .i64 t8], .int .i64 e3])))) (cP4 : Hid (∀ W : World, Calls Try.prog 9 #[.string s] W (Ans W (.tuple #[.agg #[.int .i64 n0, .int .i64 n1], .int .i64 f4]))))
    (h3 : Hid (e3 = 0 → (∀ W : World, Calls Try.prog 7 #[.agg #[.int .u64 t0, .int .u64 t1, .int .i64 t2, .int .i64 t3, .int .i64 t4, .int .i64 t5, .int .u64 t6, .int .u64 t7, .int .i64 t8]] W (Ans W (.string s))) ∧ (∀ W : World, Calls Try.prog 8 #[.agg #[.int .u64 t0, .int .u64 t1, .int .i64 t2, .int .i64 t3, .int .i64 t4, .int .i64 t5, .int .u64 t6, .int .u64 t7, .int .i64 t8]] W (Ans W (.int .i64 0))))) (h4 : Hid (f4 = 0 → (∀ W : World, Calls Try.prog 10 #[.agg #[.int .i64 n0, .int .i64 n1]] W (Ans W (.string s))))) :
    Calls Try.prog 3 #[.agg #[.int .u64 o0, .int .u64 o1, .int .i64 o2, .int .i64 o3, .int .i64 o4, .int .i64 o5, .int .u64 o6, .int .u64 o7, .int .i64 o8], .agg #[.int .i64 b0, .int .i64 b1], .string s] w fun e w' => e = .returned (.bool true) ∧ Below w.heap.size w w' := by
  have L0 := Lib.hid (lw_start w ⟨o0, o1, o2, o3, o4, o5, o6, o7, o8⟩ ⟨b0, b1⟩)
  unfold Odr.cells Bal.cells at L0
  go_enter Try.func3, Try.ntmps3
  go_upto_region 5 with (go_at_call 5; (with_reducible refine (awake20_any _).mono ?_); rintro e w1 ⟨rfl, hb1⟩; have L1 := Lib.hid (lw_on L0.out (by simpa using hb1)); clear hb1; obtain ⟨p0, p1, p2, p3, p4, p5, p6, p7, p8⟩ := box_cells L1.out.ob; simp only at p0 p1 p2 p3 p4 p5 p6 p7 p8; obtain ⟨r0, r1⟩ := hp_cells2 L1.out.bb)
  go_cut [7, 8] from 15 (fun s7 s8 wx => ∃ k : Nat, s7 = .pointer (some ⟨k, 0, none⟩) ∧ s8 = .int .i64 e1 ∧ LX w ⟨o0, o1, o2, o3, o4, o5, o6, o7, o8⟩ ⟨b0, b1⟩ k ⟨x0, x1, x2, x3, x4, x5, x6, x7, x8⟩ wx)
  case first =>
    refine wp_region_noPanic ?_
    refine wp_region_held_drew (S := (fun wx => LW w ⟨o0, o1, o2, o3, o4, o5, o6, o7, o8⟩ ⟨b0, b1⟩ wx)) (by kernel_rfl) (lw_drew L1.out) (fun HS => ?_)
    refine wpAnyH_take (S := (fun wx => LW w ⟨o0, o1, o2, o3, o4, o5, o6, o7, o8⟩ ⟨b0, b1⟩ wx)) (i := 0) (oi := { dst := some 21, op := Go.Op.fieldAddr 24 (Go.Operand.tmp 3) 0, type := 0, pos := "law.go:44", after := #[], guard := none }) (v := ?v1) rfl (by kernel_rfl) (by kernel_rfl) (by kernel_rfl) (fun _ _ _ h => h) (Or.inl ⟨by rfl, ?y1⟩) HS ?r1
    case y1 => (intro wx hSw; obtain ⟨q0, q1, q2, q3, q4, q5, q6, q7, q8⟩ := box_cells hSw.ob; simp only at q0 q1 q2 q3 q4 q5 q6 q7 q8; go_simp; first | done | with_reducible rfl | skip)
    try simp only [Act.put, List.setIfInBounds_toArray, List.set_cons_zero, List.set_cons_succ]
    refine wpAnyH_take (S := (fun wx => LW w ⟨o0, o1, o2, o3, o4, o5, o6, o7, o8⟩ ⟨b0, b1⟩ wx)) (i := 1) (oi := { dst := some 22, op := Go.Op.load 22 (Go.Operand.tmp 21), type := 22, pos := "law.go:44", after := #[{ on := 0, ground := Go.Ground.data }], guard := none }) (v := ?v2) rfl (by kernel_rfl) (by kernel_rfl) (by kernel_rfl) (fun _ _ _ h => h) (Or.inl ⟨by rfl, ?y2⟩) HS ?r2
    case y2 => (intro wx hSw; obtain ⟨q0, q1, q2, q3, q4, q5, q6, q7, q8⟩ := box_cells hSw.ob; simp only at q0 q1 q2 q3 q4 q5 q6 q7 q8; go_simp; first | done | with_reducible rfl | skip)
    try simp only [Act.put, List.setIfInBounds_toArray, List.set_cons_zero, List.set_cons_succ]
    refine wpAnyH_take (S := (fun wx => LW w ⟨o0, o1, o2, o3, o4, o5, o6, o7, o8⟩ ⟨b0, b1⟩ wx)) (i := 2) (oi := { dst := some 23, op := Go.Op.load 24 (Go.Operand.tmp 3), type := 24, pos := "law.go:44", after := #[], guard := none }) (v := ?v3) rfl (by kernel_rfl) (by kernel_rfl) (by kernel_rfl) (fun _ _ _ h => h) (Or.inl ⟨by rfl, ?y3⟩) HS ?r3
    case y3 => (intro wx hSw; obtain ⟨q0, q1, q2, q3, q4, q5, q6, q7, q8⟩ := box_cells hSw.ob; simp only at q0 q1 q2 q3 q4 q5 q6 q7 q8; go_simp; first | done | with_reducible rfl | skip)
    try simp only [Act.put, List.setIfInBounds_toArray, List.set_cons_zero, List.set_cons_succ]
    refine wpAnyH_ready (rs := [3, 8]) (by kernel_rfl) (by simp) ?_
    refine AllReadyH.cons (o := { dst := some 24, op := Go.Op.call { callee := Go.Callee.value (Go.Operand.func 7), args := #[Go.Operand.tmp 23], argTypes := #[24] }, type := 9, pos := "law.go:44", after := #[{ on := 2, ground := Go.Ground.data }], guard := none }) rfl (fun K hK => ?_) ?_
    · skip
      go_simp
      refine (cBy.out _).mono ?_; rintro e w3 ⟨rfl, b3⟩
      have L3 := Lib.hid (lw_on HS b3)
      refine hK.out _ _ (L3.out) (fun HS => ?_)
      try simp only [Act.put, List.setIfInBounds_toArray, List.set_cons_zero, List.set_cons_succ]
      refine wpAnyH_ready (rs := [4, 8]) (by kernel_rfl) (by simp) ?_
      refine AllReadyH.cons (o := { dst := some 25, op := Go.Op.call { callee := Go.Callee.value (Go.Operand.func 6), args := #[Go.Operand.tmp 22, Go.Operand.tmp 24], argTypes := #[22, 9] }, type := 29, pos := "law.go:44", after := #[{ on := 1, ground := Go.Ground.data }, { on := 3, ground := Go.Ground.data }, { on := 3, ground := Go.Ground.chain }], guard := none }) rfl (fun K hK => ?_) ?_
      · skip
        go_simp
        refine (cPa.out _).mono ?_; rintro e w4 ⟨rfl, b4⟩
        have L4 := Lib.hid (lw_on L3.out b4)
        refine hK.out _ _ (L4.out) (fun HS => ?_)
        try simp only [Act.put, List.setIfInBounds_toArray, List.set_cons_zero, List.set_cons_succ]
        refine wpAnyH_take (S := (fun wx => LW w ⟨o0, o1, o2, o3, o4, o5, o6, o7, o8⟩ ⟨b0, b1⟩ wx)) (i := 5) (oi := { dst := some 20, op := Go.Op.move (Go.Operand.tmp 25), type := 29, pos := "law.go:44", after := #[{ on := 4, ground := Go.Ground.data }], guard := none }) (v := ?v4) rfl (by kernel_rfl) (by kernel_rfl) (by kernel_rfl) (fun _ _ _ h => h) (Or.inl ⟨by rfl, ?y4⟩) HS ?r4
        case y4 => (intro wx hSw; obtain ⟨q0, q1, q2, q3, q4, q5, q6, q7, q8⟩ := box_cells hSw.ob; simp only at q0 q1 q2 q3 q4 q5 q6 q7 q8; go_simp; first | done | with_reducible rfl | skip)
        try simp only [Act.put, List.setIfInBounds_toArray, List.set_cons_zero, List.set_cons_succ]
        refine wpAnyH_take (S := (fun wx => LW w ⟨o0, o1, o2, o3, o4, o5, o6, o7, o8⟩ ⟨b0, b1⟩ wx)) (i := 6) (oi := { dst := some 26, op := Go.Op.extract (Go.Operand.tmp 20) 0, type := 24, pos := "law.go:44", after := #[{ on := 5, ground := Go.Ground.data }], guard := none }) (v := ?v5) rfl (by kernel_rfl) (by kernel_rfl) (by kernel_rfl) (fun _ _ _ h => h) (Or.inl ⟨by rfl, ?y5⟩) HS ?r5
        case y5 => (intro wx hSw; obtain ⟨q0, q1, q2, q3, q4, q5, q6, q7, q8⟩ := box_cells hSw.ob; simp only at q0 q1 q2 q3 q4 q5 q6 q7 q8; go_simp; first | done | with_reducible rfl | skip)
        try simp only [Act.put, List.setIfInBounds_toArray, List.set_cons_zero, List.set_cons_succ]
        refine wpAnyH_take (S := (fun wx => LW w ⟨o0, o1, o2, o3, o4, o5, o6, o7, o8⟩ ⟨b0, b1⟩ wx)) (i := 7) (oi := { dst := some 27, op := Go.Op.extract (Go.Operand.tmp 20) 1, type := 28, pos := "law.go:44", after := #[{ on := 5, ground := Go.Ground.data }, { on := 9, ground := Go.Ground.gcOnly Go.Departure.lateStores }], guard := none }) (v := ?v6) rfl (by kernel_rfl) (by kernel_rfl) (by kernel_rfl) (fun _ _ _ h => h) (Or.inl ⟨by rfl, ?y6⟩) HS ?r6
        case y6 => (intro wx hSw; obtain ⟨q0, q1, q2, q3, q4, q5, q6, q7, q8⟩ := box_cells hSw.ob; simp only at q0 q1 q2 q3 q4 q5 q6 q7 q8; go_simp; first | done | with_reducible rfl | skip)
        try simp only [Act.put, List.setIfInBounds_toArray, List.set_cons_zero, List.set_cons_succ]
        refine wpAnyH_ready (rs := [8]) (by kernel_rfl) (by simp) ?_
        refine AllReadyH.cons (o := { dst := some 7, op := Go.Op.alloc 24, type := 0, pos := "law.go:44", after := #[], guard := none }) rfl (fun K hK => ?_) AllReadyH.nil
        go_simp
        refine hK.out _ _ (lw_alloc L4.out _) (fun HS => ?_)
        try simp only [Act.put, List.setIfInBounds_toArray, List.set_cons_zero, List.set_cons_succ]
        refine wpAnyH_ready (rs := [9]) (by kernel_rfl) (by simp) ?_
        refine AllReadyH.cons (o := { dst := none, op := Go.Op.store 24 (Go.Operand.tmp 7) (Go.Operand.tmp 26), type := 0, pos := "law.go:44", after := #[{ on := 8, ground := Go.Ground.data }, { on := 6, ground := Go.Ground.data }, { on := 4, ground := Go.Ground.chain }, { on := 0, ground := Go.Ground.phase }, { on := 1, ground := Go.Ground.phase }, { on := 2, ground := Go.Ground.phase }, { on := 3, ground := Go.Ground.phase }, { on := 4, ground := Go.Ground.phase }, { on := 5, ground := Go.Ground.phase }, { on := 6, ground := Go.Ground.phase }, { on := 7, ground := Go.Ground.textOnly Go.Departure.lateStores }, { on := 8, ground := Go.Ground.phase }], guard := none }) rfl (fun K hK => ?_) AllReadyH.nil
        go_simp
        refine hK.out _ _ (lw_alloc L4.out _) (fun HS => ?_)
        try simp only [Act.put, List.setIfInBounds_toArray, List.set_cons_zero, List.set_cons_succ]
        refine wpAnyH_take (S := (fun wx => LW w ⟨o0, o1, o2, o3, o4, o5, o6, o7, o8⟩ ⟨b0, b1⟩ wx)) (i := 10) (oi := { dst := some 8, op := Go.Op.assign (Go.Operand.tmp 27), type := 28, pos := "law.go:44", after := #[{ on := 7, ground := Go.Ground.data }, { on := 9, ground := Go.Ground.chain }, { on := 0, ground := Go.Ground.phase }, { on := 1, ground := Go.Ground.phase }, { on := 2, ground := Go.Ground.phase }, { on := 3, ground := Go.Ground.phase }, { on := 4, ground := Go.Ground.phase }, { on := 5, ground := Go.Ground.phase }, { on := 6, ground := Go.Ground.phase }, { on := 7, ground := Go.Ground.phase }, { on := 8, ground := Go.Ground.phase }, { on := 9, ground := Go.Ground.phase }], guard := none }) (v := ?v7) rfl (by kernel_rfl) (by kernel_rfl) (by kernel_rfl) (fun _ _ _ h => h) (Or.inl ⟨by rfl, ?y7⟩) HS ?r7
        case y7 => (intro wx hSw; obtain ⟨q0, q1, q2, q3, q4, q5, q6, q7, q8⟩ := box_cells hSw.ob; simp only at q0 q1 q2 q3 q4 q5 q6 q7 q8; go_simp; first | done | with_reducible rfl | skip)
        try simp only [Act.put, List.setIfInBounds_toArray, List.set_cons_zero, List.set_cons_succ]
        refine wpAnyH_done (by kernel_rfl) ?_ _
        refine NoPanic.normal ?_
        go_wp2
        go_meet
        case rel => exact ⟨_, rfl, rfl, lx_new L4.out ⟨x0, x1, x2, x3, x4, x5, x6, x7, x8⟩⟩
      · refine AllReadyH.cons (o := { dst := some 7, op := Go.Op.alloc 24, type := 0, pos := "law.go:44", after := #[], guard := none }) rfl (fun K hK => ?_) AllReadyH.nil
        go_simp
        have Z3 := Lib.hid (lx_new L3.out ⟨0, 0, 0, 0, 0, 0, 0, 0, 0⟩)
        refine hK.out _ _ (Z3.out.lw) (fun HS => ?_)
        try simp only [Act.put, List.setIfInBounds_toArray, List.set_cons_zero, List.set_cons_succ]
        refine wpAnyH_ready (rs := [4]) (by kernel_rfl) (by simp) ?_
        refine AllReadyH.cons (o := { dst := some 25, op := Go.Op.call { callee := Go.Callee.value (Go.Operand.func 6), args := #[Go.Operand.tmp 22, Go.Operand.tmp 24], argTypes := #[22, 9] }, type := 29, pos := "law.go:44", after := #[{ on := 1, ground := Go.Ground.data }, { on := 3, ground := Go.Ground.data }, { on := 3, ground := Go.Ground.chain }], guard := none }) rfl (fun K hK => ?_) AllReadyH.nil
        go_simp
        refine (cPa.out _).mono ?_; rintro e w4 ⟨rfl, b4⟩
        have Z4 := Lib.hid (lx_on Z3.out b4)
        refine hK.out _ _ (Z4.out.lw) (fun HS => ?_)
        try simp only [Act.put, List.setIfInBounds_toArray, List.set_cons_zero, List.set_cons_succ]
        refine wpAnyH_take (S := (fun wx => LW w ⟨o0, o1, o2, o3, o4, o5, o6, o7, o8⟩ ⟨b0, b1⟩ wx)) (i := 5) (oi := { dst := some 20, op := Go.Op.move (Go.Operand.tmp 25), type := 29, pos := "law.go:44", after := #[{ on := 4, ground := Go.Ground.data }], guard := none }) (v := ?v8) rfl (by kernel_rfl) (by kernel_rfl) (by kernel_rfl) (fun _ _ _ h => h) (Or.inl ⟨by rfl, ?y8⟩) HS ?r8
        case y8 => (intro wx hSw; obtain ⟨q0, q1, q2, q3, q4, q5, q6, q7, q8⟩ := box_cells hSw.ob; simp only at q0 q1 q2 q3 q4 q5 q6 q7 q8; go_simp; first | done | with_reducible rfl | skip)
        try simp only [Act.put, List.setIfInBounds_toArray, List.set_cons_zero, List.set_cons_succ]
        refine wpAnyH_take (S := (fun wx => LW w ⟨o0, o1, o2, o3, o4, o5, o6, o7, o8⟩ ⟨b0, b1⟩ wx)) (i := 6) (oi := { dst := some 26, op := Go.Op.extract (Go.Operand.tmp 20) 0, type := 24, pos := "law.go:44", after := #[{ on := 5, ground := Go.Ground.data }], guard := none }) (v := ?v9) rfl (by kernel_rfl) (by kernel_rfl) (by kernel_rfl) (fun _ _ _ h => h) (Or.inl ⟨by rfl, ?y9⟩) HS ?r9
        case y9 => (intro wx hSw; obtain ⟨q0, q1, q2, q3, q4, q5, q6, q7, q8⟩ := box_cells hSw.ob; simp only at q0 q1 q2 q3 q4 q5 q6 q7 q8; go_simp; first | done | with_reducible rfl | skip)
        try simp only [Act.put, List.setIfInBounds_toArray, List.set_cons_zero, List.set_cons_succ]
        refine wpAnyH_take (S := (fun wx => LW w ⟨o0, o1, o2, o3, o4, o5, o6, o7, o8⟩ ⟨b0, b1⟩ wx)) (i := 7) (oi := { dst := some 27, op := Go.Op.extract (Go.Operand.tmp 20) 1, type := 28, pos := "law.go:44", after := #[{ on := 5, ground := Go.Ground.data }, { on := 9, ground := Go.Ground.gcOnly Go.Departure.lateStores }], guard := none }) (v := ?v10) rfl (by kernel_rfl) (by kernel_rfl) (by kernel_rfl) (fun _ _ _ h => h) (Or.inl ⟨by rfl, ?y10⟩) HS ?r10
        case y10 => (intro wx hSw; obtain ⟨q0, q1, q2, q3, q4, q5, q6, q7, q8⟩ := box_cells hSw.ob; simp only at q0 q1 q2 q3 q4 q5 q6 q7 q8; go_simp; first | done | with_reducible rfl | skip)
        try simp only [Act.put, List.setIfInBounds_toArray, List.set_cons_zero, List.set_cons_succ]
        refine wpAnyH_ready (rs := [9]) (by kernel_rfl) (by simp) ?_
        refine AllReadyH.cons (o := { dst := none, op := Go.Op.store 24 (Go.Operand.tmp 7) (Go.Operand.tmp 26), type := 0, pos := "law.go:44", after := #[{ on := 8, ground := Go.Ground.data }, { on := 6, ground := Go.Ground.data }, { on := 4, ground := Go.Ground.chain }, { on := 0, ground := Go.Ground.phase }, { on := 1, ground := Go.Ground.phase }, { on := 2, ground := Go.Ground.phase }, { on := 3, ground := Go.Ground.phase }, { on := 4, ground := Go.Ground.phase }, { on := 5, ground := Go.Ground.phase }, { on := 6, ground := Go.Ground.phase }, { on := 7, ground := Go.Ground.textOnly Go.Departure.lateStores }, { on := 8, ground := Go.Ground.phase }], guard := none }) rfl (fun K hK => ?_) AllReadyH.nil
        obtain ⟨g0, g1, g2, g3, g4, g5, g6, g7, g8⟩ := bx9_cells Z4.out.kb; obtain ⟨i0, i1, i2, i3, i4, i5, i6, i7, i8⟩ := bx9_free Z4.out.kb
        have ZS := Lib.hid (lx_sets Z4.out (lw_far L3.out) ⟨x0, x1, x2, x3, x4, x5, x6, x7, x8⟩)
        go_simp
        refine hK.out _ _ (ZS.out.lw) (fun HS => ?_)
        try simp only [Act.put, List.setIfInBounds_toArray, List.set_cons_zero, List.set_cons_succ]
        refine wpAnyH_take (S := (fun wx => LW w ⟨o0, o1, o2, o3, o4, o5, o6, o7, o8⟩ ⟨b0, b1⟩ wx)) (i := 10) (oi := { dst := some 8, op := Go.Op.assign (Go.Operand.tmp 27), type := 28, pos := "law.go:44", after := #[{ on := 7, ground := Go.Ground.data }, { on := 9, ground := Go.Ground.chain }, { on := 0, ground := Go.Ground.phase }, { on := 1, ground := Go.Ground.phase }, { on := 2, ground := Go.Ground.phase }, { on := 3, ground := Go.Ground.phase }, { on := 4, ground := Go.Ground.phase }, { on := 5, ground := Go.Ground.phase }, { on := 6, ground := Go.Ground.phase }, { on := 7, ground := Go.Ground.phase }, { on := 8, ground := Go.Ground.phase }, { on := 9, ground := Go.Ground.phase }], guard := none }) (v := ?v11) rfl (by kernel_rfl) (by kernel_rfl) (by kernel_rfl) (fun _ _ _ h => h) (Or.inl ⟨by rfl, ?y11⟩) HS ?r11
        case y11 => (intro wx hSw; obtain ⟨q0, q1, q2, q3, q4, q5, q6, q7, q8⟩ := box_cells hSw.ob; simp only at q0 q1 q2 q3 q4 q5 q6 q7 q8; go_simp; first | done | with_reducible rfl | skip)
        try simp only [Act.put, List.setIfInBounds_toArray, List.set_cons_zero, List.set_cons_succ]
        refine wpAnyH_done (by kernel_rfl) ?_ _
        refine NoPanic.normal ?_
        go_wp2
        go_meet
        case rel => exact ⟨_, rfl, rfl, ZS.out⟩
    · refine AllReadyH.cons (o := { dst := some 7, op := Go.Op.alloc 24, type := 0, pos := "law.go:44", after := #[], guard := none }) rfl (fun K hK => ?_) AllReadyH.nil
      go_simp
      have Z2 := Lib.hid (lx_drew (lx_new L1.out ⟨0, 0, 0, 0, 0, 0, 0, 0, 0⟩))
      refine hK.out _ _ (Z2.out.lw) (fun HS => ?_)
      try simp only [Act.put, List.setIfInBounds_toArray, List.set_cons_zero, List.set_cons_succ]
      refine wpAnyH_ready (rs := [3]) (by kernel_rfl) (by simp) ?_
      refine AllReadyH.cons (o := { dst := some 24, op := Go.Op.call { callee := Go.Callee.value (Go.Operand.func 7), args := #[Go.Operand.tmp 23], argTypes := #[24] }, type := 9, pos := "law.go:44", after := #[{ on := 2, ground := Go.Ground.data }], guard := none }) rfl (fun K hK => ?_) AllReadyH.nil
      go_simp
      refine (cBy.out _).mono ?_; rintro e w3 ⟨rfl, b3⟩
      have Z3 := Lib.hid (lx_on Z2.out b3)
      refine hK.out _ _ (Z3.out.lw) (fun HS => ?_)
      try simp only [Act.put, List.setIfInBounds_toArray, List.set_cons_zero, List.set_cons_succ]
      refine wpAnyH_ready (rs := [4]) (by kernel_rfl) (by simp) ?_
      refine AllReadyH.cons (o := { dst := some 25, op := Go.Op.call { callee := Go.Callee.value (Go.Operand.func 6), args := #[Go.Operand.tmp 22, Go.Operand.tmp 24], argTypes := #[22, 9] }, type := 29, pos := "law.go:44", after := #[{ on := 1, ground := Go.Ground.data }, { on := 3, ground := Go.Ground.data }, { on := 3, ground := Go.Ground.chain }], guard := none }) rfl (fun K hK => ?_) AllReadyH.nil
      go_simp
      refine (cPa.out _).mono ?_; rintro e w4 ⟨rfl, b4⟩
      have Z4 := Lib.hid (lx_on Z3.out b4)
      refine hK.out _ _ (Z4.out.lw) (fun HS => ?_)
      try simp only [Act.put, List.setIfInBounds_toArray, List.set_cons_zero, List.set_cons_succ]
      refine wpAnyH_take (S := (fun wx => LW w ⟨o0, o1, o2, o3, o4, o5, o6, o7, o8⟩ ⟨b0, b1⟩ wx)) (i := 5) (oi := { dst := some 20, op := Go.Op.move (Go.Operand.tmp 25), type := 29, pos := "law.go:44", after := #[{ on := 4, ground := Go.Ground.data }], guard := none }) (v := ?v12) rfl (by kernel_rfl) (by kernel_rfl) (by kernel_rfl) (fun _ _ _ h => h) (Or.inl ⟨by rfl, ?y12⟩) HS ?r12
      case y12 => (intro wx hSw; obtain ⟨q0, q1, q2, q3, q4, q5, q6, q7, q8⟩ := box_cells hSw.ob; simp only at q0 q1 q2 q3 q4 q5 q6 q7 q8; go_simp; first | done | with_reducible rfl | skip)
      try simp only [Act.put, List.setIfInBounds_toArray, List.set_cons_zero, List.set_cons_succ]
      refine wpAnyH_take (S := (fun wx => LW w ⟨o0, o1, o2, o3, o4, o5, o6, o7, o8⟩ ⟨b0, b1⟩ wx)) (i := 6) (oi := { dst := some 26, op := Go.Op.extract (Go.Operand.tmp 20) 0, type := 24, pos := "law.go:44", after := #[{ on := 5, ground := Go.Ground.data }], guard := none }) (v := ?v13) rfl (by kernel_rfl) (by kernel_rfl) (by kernel_rfl) (fun _ _ _ h => h) (Or.inl ⟨by rfl, ?y13⟩) HS ?r13
      case y13 => (intro wx hSw; obtain ⟨q0, q1, q2, q3, q4, q5, q6, q7, q8⟩ := box_cells hSw.ob; simp only at q0 q1 q2 q3 q4 q5 q6 q7 q8; go_simp; first | done | with_reducible rfl | skip)
      try simp only [Act.put, List.setIfInBounds_toArray, List.set_cons_zero, List.set_cons_succ]
      refine wpAnyH_take (S := (fun wx => LW w ⟨o0, o1, o2, o3, o4, o5, o6, o7, o8⟩ ⟨b0, b1⟩ wx)) (i := 7) (oi := { dst := some 27, op := Go.Op.extract (Go.Operand.tmp 20) 1, type := 28, pos := "law.go:44", after := #[{ on := 5, ground := Go.Ground.data }, { on := 9, ground := Go.Ground.gcOnly Go.Departure.lateStores }], guard := none }) (v := ?v14) rfl (by kernel_rfl) (by kernel_rfl) (by kernel_rfl) (fun _ _ _ h => h) (Or.inl ⟨by rfl, ?y14⟩) HS ?r14
      case y14 => (intro wx hSw; obtain ⟨q0, q1, q2, q3, q4, q5, q6, q7, q8⟩ := box_cells hSw.ob; simp only at q0 q1 q2 q3 q4 q5 q6 q7 q8; go_simp; first | done | with_reducible rfl | skip)
      try simp only [Act.put, List.setIfInBounds_toArray, List.set_cons_zero, List.set_cons_succ]
      refine wpAnyH_ready (rs := [9]) (by kernel_rfl) (by simp) ?_
      refine AllReadyH.cons (o := { dst := none, op := Go.Op.store 24 (Go.Operand.tmp 7) (Go.Operand.tmp 26), type := 0, pos := "law.go:44", after := #[{ on := 8, ground := Go.Ground.data }, { on := 6, ground := Go.Ground.data }, { on := 4, ground := Go.Ground.chain }, { on := 0, ground := Go.Ground.phase }, { on := 1, ground := Go.Ground.phase }, { on := 2, ground := Go.Ground.phase }, { on := 3, ground := Go.Ground.phase }, { on := 4, ground := Go.Ground.phase }, { on := 5, ground := Go.Ground.phase }, { on := 6, ground := Go.Ground.phase }, { on := 7, ground := Go.Ground.textOnly Go.Departure.lateStores }, { on := 8, ground := Go.Ground.phase }], guard := none }) rfl (fun K hK => ?_) AllReadyH.nil
      obtain ⟨g0, g1, g2, g3, g4, g5, g6, g7, g8⟩ := bx9_cells Z4.out.kb; obtain ⟨i0, i1, i2, i3, i4, i5, i6, i7, i8⟩ := bx9_free Z4.out.kb
      have ZS := Lib.hid (lx_sets Z4.out (lw_far L1.out) ⟨x0, x1, x2, x3, x4, x5, x6, x7, x8⟩)
      go_simp
      refine hK.out _ _ (ZS.out.lw) (fun HS => ?_)
      try simp only [Act.put, List.setIfInBounds_toArray, List.set_cons_zero, List.set_cons_succ]
      refine wpAnyH_take (S := (fun wx => LW w ⟨o0, o1, o2, o3, o4, o5, o6, o7, o8⟩ ⟨b0, b1⟩ wx)) (i := 10) (oi := { dst := some 8, op := Go.Op.assign (Go.Operand.tmp 27), type := 28, pos := "law.go:44", after := #[{ on := 7, ground := Go.Ground.data }, { on := 9, ground := Go.Ground.chain }, { on := 0, ground := Go.Ground.phase }, { on := 1, ground := Go.Ground.phase }, { on := 2, ground := Go.Ground.phase }, { on := 3, ground := Go.Ground.phase }, { on := 4, ground := Go.Ground.phase }, { on := 5, ground := Go.Ground.phase }, { on := 6, ground := Go.Ground.phase }, { on := 7, ground := Go.Ground.phase }, { on := 8, ground := Go.Ground.phase }, { on := 9, ground := Go.Ground.phase }], guard := none }) (v := ?v15) rfl (by kernel_rfl) (by kernel_rfl) (by kernel_rfl) (fun _ _ _ h => h) (Or.inl ⟨by rfl, ?y15⟩) HS ?r15
      case y15 => (intro wx hSw; obtain ⟨q0, q1, q2, q3, q4, q5, q6, q7, q8⟩ := box_cells hSw.ob; simp only at q0 q1 q2 q3 q4 q5 q6 q7 q8; go_simp; first | done | with_reducible rfl | skip)
      try simp only [Act.put, List.setIfInBounds_toArray, List.set_cons_zero, List.set_cons_succ]
      refine wpAnyH_done (by kernel_rfl) ?_ _
      refine NoPanic.normal ?_
      go_wp2
      go_meet
      case rel => exact ⟨_, rfl, rfl, ZS.out⟩
  case rest =>
  obtain ⟨k, rfl, rfl, hx⟩ := hcut
  have L2 := Lib.hid hx
  obtain ⟨u0, u1, u2, u3, u4, u5, u6, u7, u8⟩ := box_cells L2.out.lw.ob; simp only at u0 u1 u2 u3 u4 u5 u6 u7 u8
  obtain ⟨v0, v1, v2, v3, v4, v5, v6, v7, v8⟩ := box_cells L2.out.kb; simp only at v0 v1 v2 v3 v4 v5 v6 v7 v8
  clear hx p0 p1 p2 p3 p4 p5 p6 p7 p8 r0 r1
  go_upto_region 6 with fail
  go_cut [39] from 15 (fun s39 wx => s39 = .bool false ∧ LW w ⟨o0, o1, o2, o3, o4, o5, o6, o7, o8⟩ ⟨b0, b1⟩ wx)
  case first =>
    by_cases hz : z = 0
    · subst hz
      obtain ⟨he, rfl⟩ := h1.out rfl
      cases he
      go_wp2_with (go_at_call 8; (with_reducible refine (cCk.out _).mono ?_); rintro e w5 ⟨rfl, b5⟩; have L5 := Lib.hid (lx_on L2.out b5); clear b5; obtain ⟨p0, p1, p2, p3, p4, p5, p6, p7, p8⟩ := box_cells L5.out.lw.ob; simp only at p0 p1 p2 p3 p4 p5 p6 p7 p8; obtain ⟨q0, q1, q2, q3, q4, q5, q6, q7, q8⟩ := box_cells L5.out.kb; simp only at q0 q1 q2 q3 q4 q5 q6 q7 q8)
      go_meet
      case rel => exact ⟨rfl, L5.out.lw⟩
    · have kz : (z == 0) = false := by simpa using hz
      go_wp2_with (go_at_call 8; (with_reducible refine (cCk.out _).mono ?_); rintro e w5 ⟨rfl, b5⟩; have L5 := Lib.hid (lx_on L2.out b5); clear b5)
      go_meet
      case rel => exact ⟨rfl, L5.out.lw⟩
  case rest =>
  obtain ⟨rfl, hx⟩ := hcut
  have L3 := Lib.hid hx
  obtain ⟨r0, r1⟩ := hp_cells2 L3.out.bb
  clear hx h1 cPa cCk cBy L2 L1 L0
  go_upto_region 9 with (first
    | (go_at_call 10; (with_reducible refine (cMo.out _).mono ?_); rintro e w6 ⟨rfl, b6⟩; have L6 := Lib.hid (lw_on L3.out b6); clear b6)
    | (go_at_call 9; (with_reducible refine (cPm.out _).mono ?_); rintro e w7 ⟨rfl, b7⟩; have L7 := Lib.hid (lw_on L6.out b7); have M7 := Lib.hid (lm_new (lw_on L6.out b7) ⟨m0, m1⟩); clear b7; obtain ⟨q0, q1⟩ := hp_cells2 L7.out.bb; have hlt := lw_far L7.out))
  go_cut [57] from 15 (fun s57 wx => s57 = .bool false ∧ LW w ⟨o0, o1, o2, o3, o4, o5, o6, o7, o8⟩ ⟨b0, b1⟩ wx)
  case first =>
    by_cases hy : y = 0
    · subst hy
      obtain ⟨he, rfl⟩ := h2.out rfl
      cases he
      go_wp2_with (go_at_call 11; (with_reducible refine (cFi.out _).mono ?_); rintro e w8 ⟨rfl, b8⟩; have L8 := Lib.hid (lm_on M7.out b8); clear b8; obtain ⟨p0, p1⟩ := hp_cells2 L8.out.lw.bb; obtain ⟨q0, q1⟩ := hp_cells2 L8.out.kb)
      go_meet
      case rel => exact ⟨rfl, L8.out.lw⟩
    · have ky : (y == 0) = false := by simpa using hy
      go_wp2_with (go_at_call 11; (with_reducible refine (cFi.out _).mono ?_); rintro e w8 ⟨rfl, b8⟩; have L8 := Lib.hid (lm_on M7.out b8); clear b8)
      go_meet
      case rel => exact ⟨rfl, L8.out.lw⟩
  case rest =>
  obtain ⟨rfl, hx⟩ := hcut
  have L9 := Lib.hid hx
  clear hx h2 cMo cPm cFi L3 L6 L7 M7 hlt r0 r1 q0 q1
  by_cases he3 : e3 = 0
  · subst he3
    have cB := Lib.hid (h3.out rfl).1
    have cC := Lib.hid (h3.out rfl).2
    clear h3
    by_cases hf4 : f4 = 0
    · subst hf4
      have cM := Lib.hid (h4.out rfl)
      clear h4
      go_wp2_with (first
    | (go_at_call 6; (with_reducible refine (cP3.out _).mono ?_); rintro e v1 ⟨rfl, d1⟩; have L10 := Lib.hid (lx_new (lw_on L9.out d1) ⟨t0, t1, t2, t3, t4, t5, t6, t7, t8⟩); clear d1)
    | (go_at_call 9; (with_reducible refine (cP4.out _).mono ?_); rintro e v2 ⟨rfl, d2⟩; have L11 := Lib.hid (lx_on L10.out d2); have Z0 := Lib.hid (lxm_new L11.out ⟨n0, n1⟩); obtain ⟨g0, g1, g2, g3, g4, g5, g6, g7, g8⟩ := box_cells L11.out.kb; simp only at g0 g1 g2 g3 g4 g5 g6 g7 g8; have hlt := (Array.getElem?_eq_some_iff.1 L11.out.kb).1; clear d2)
    | (go_at_call 7; (with_reducible refine (cB.out _).mono ?_); rintro e v3 ⟨rfl, d3⟩; have Z1 := Lib.hid (lxm_on Z0.out d3); obtain ⟨i0, i1, i2, i3, i4, i5, i6, i7, i8⟩ := box_cells Z1.out.lx.kb; simp only at i0 i1 i2 i3 i4 i5 i6 i7 i8; obtain ⟨a0, a1⟩ := hp_cells2 Z1.out.mb; clear d3)
    | (go_at_call 8; (with_reducible refine (cC.out _).mono ?_); rintro e v4 ⟨rfl, d4⟩; have Z2 := Lib.hid (lxm_on Z1.out d4); obtain ⟨c0, c1⟩ := hp_cells2 Z2.out.mb; clear d4)
    | (go_at_call 10; (with_reducible refine (cM.out _).mono ?_); rintro e v5 ⟨rfl, d5⟩; have Z3 := Lib.hid (by first | exact lxm_on Z2.out d5 | exact lxm_on Z0.out d5); clear d5))
      go_ret
      exact ⟨ret_bool (by first | rfl | simp), Z3.out.lx.lw.below⟩
    · have k4 : (f4 != 0) = true := by simpa using hf4
      clear h4
      go_wp2_with (first
    | (go_at_call 6; (with_reducible refine (cP3.out _).mono ?_); rintro e v1 ⟨rfl, d1⟩; have L10 := Lib.hid (lx_new (lw_on L9.out d1) ⟨t0, t1, t2, t3, t4, t5, t6, t7, t8⟩); clear d1)
    | (go_at_call 9; (with_reducible refine (cP4.out _).mono ?_); rintro e v2 ⟨rfl, d2⟩; have L11 := Lib.hid (lx_on L10.out d2); have Z0 := Lib.hid (lxm_new L11.out ⟨n0, n1⟩); obtain ⟨g0, g1, g2, g3, g4, g5, g6, g7, g8⟩ := box_cells L11.out.kb; simp only at g0 g1 g2 g3 g4 g5 g6 g7 g8; have hlt := (Array.getElem?_eq_some_iff.1 L11.out.kb).1; clear d2)
    | (go_at_call 7; (with_reducible refine (cB.out _).mono ?_); rintro e v3 ⟨rfl, d3⟩; have Z1 := Lib.hid (lxm_on Z0.out d3); obtain ⟨i0, i1, i2, i3, i4, i5, i6, i7, i8⟩ := box_cells Z1.out.lx.kb; simp only at i0 i1 i2 i3 i4 i5 i6 i7 i8; obtain ⟨a0, a1⟩ := hp_cells2 Z1.out.mb; clear d3)
    | (go_at_call 8; (with_reducible refine (cC.out _).mono ?_); rintro e v4 ⟨rfl, d4⟩; have Z2 := Lib.hid (lxm_on Z1.out d4); obtain ⟨c0, c1⟩ := hp_cells2 Z2.out.mb; clear d4)
    | (go_at_call 10; (with_reducible refine (cM.out _).mono ?_); rintro e v5 ⟨rfl, d5⟩; have Z3 := Lib.hid (by first | exact lxm_on Z2.out d5 | exact lxm_on Z0.out d5); clear d5))
      go_ret
      exact ⟨ret_bool (by first | rfl | simp), Z2.out.lx.lw.below⟩
  · have k3 : (e3 != 0) = true := by simpa using he3
    clear h3
    by_cases hf4 : f4 = 0
    · subst hf4
      have cM := Lib.hid (h4.out rfl)
      clear h4
      go_wp2_with (first
    | (go_at_call 6; (with_reducible refine (cP3.out _).mono ?_); rintro e v1 ⟨rfl, d1⟩; have L10 := Lib.hid (lx_new (lw_on L9.out d1) ⟨t0, t1, t2, t3, t4, t5, t6, t7, t8⟩); clear d1)
    | (go_at_call 9; (with_reducible refine (cP4.out _).mono ?_); rintro e v2 ⟨rfl, d2⟩; have L11 := Lib.hid (lx_on L10.out d2); have Z0 := Lib.hid (lxm_new L11.out ⟨n0, n1⟩); obtain ⟨g0, g1, g2, g3, g4, g5, g6, g7, g8⟩ := box_cells L11.out.kb; simp only at g0 g1 g2 g3 g4 g5 g6 g7 g8; have hlt := (Array.getElem?_eq_some_iff.1 L11.out.kb).1; clear d2)
    | (go_at_call 7; (with_reducible refine (cB.out _).mono ?_); rintro e v3 ⟨rfl, d3⟩; have Z1 := Lib.hid (lxm_on Z0.out d3); obtain ⟨i0, i1, i2, i3, i4, i5, i6, i7, i8⟩ := box_cells Z1.out.lx.kb; simp only at i0 i1 i2 i3 i4 i5 i6 i7 i8; obtain ⟨a0, a1⟩ := hp_cells2 Z1.out.mb; clear d3)
    | (go_at_call 8; (with_reducible refine (cC.out _).mono ?_); rintro e v4 ⟨rfl, d4⟩; have Z2 := Lib.hid (lxm_on Z1.out d4); obtain ⟨c0, c1⟩ := hp_cells2 Z2.out.mb; clear d4)
    | (go_at_call 10; (with_reducible refine (cM.out _).mono ?_); rintro e v5 ⟨rfl, d5⟩; have Z3 := Lib.hid (by first | exact lxm_on Z2.out d5 | exact lxm_on Z0.out d5); clear d5))
      go_ret
      exact ⟨ret_bool (by first | rfl | simp), Z3.out.lx.lw.below⟩
    · have k4 : (f4 != 0) = true := by simpa using hf4
      clear h4
      go_wp2_with (first
    | (go_at_call 6; (with_reducible refine (cP3.out _).mono ?_); rintro e v1 ⟨rfl, d1⟩; have L10 := Lib.hid (lx_new (lw_on L9.out d1) ⟨t0, t1, t2, t3, t4, t5, t6, t7, t8⟩); clear d1)
    | (go_at_call 9; (with_reducible refine (cP4.out _).mono ?_); rintro e v2 ⟨rfl, d2⟩; have L11 := Lib.hid (lx_on L10.out d2); have Z0 := Lib.hid (lxm_new L11.out ⟨n0, n1⟩); obtain ⟨g0, g1, g2, g3, g4, g5, g6, g7, g8⟩ := box_cells L11.out.kb; simp only at g0 g1 g2 g3 g4 g5 g6 g7 g8; have hlt := (Array.getElem?_eq_some_iff.1 L11.out.kb).1; clear d2)
    | (go_at_call 7; (with_reducible refine (cB.out _).mono ?_); rintro e v3 ⟨rfl, d3⟩; have Z1 := Lib.hid (lxm_on Z0.out d3); obtain ⟨i0, i1, i2, i3, i4, i5, i6, i7, i8⟩ := box_cells Z1.out.lx.kb; simp only at i0 i1 i2 i3 i4 i5 i6 i7 i8; obtain ⟨a0, a1⟩ := hp_cells2 Z1.out.mb; clear d3)
    | (go_at_call 8; (with_reducible refine (cC.out _).mono ?_); rintro e v4 ⟨rfl, d4⟩; have Z2 := Lib.hid (lxm_on Z1.out d4); obtain ⟨c0, c1⟩ := hp_cells2 Z2.out.mb; clear d4)
    | (go_at_call 10; (with_reducible refine (cM.out _).mono ?_); rintro e v5 ⟨rfl, d5⟩; have Z3 := Lib.hid (by first | exact lxm_on Z2.out d5 | exact lxm_on Z0.out d5); clear d5))
      go_ret
      exact ⟨ret_bool (by first | rfl | simp), Z0.out.lx.lw.below⟩
end Go.Proofs.Ytckkabiafikjfaa.Odx
