/-
  The Go text of orders, walked: Money, Fits; and the chapter's examples. Conditions: as each theorem states.
-/
import Derived.Test.YtckkabiafikjfaaOrA
import Derived.Test.YtckkabiafikjfaaOrV
import Derived.Test.YtckkabiafikjfaaAmC
import Derived.Deep.RegionHeld3
namespace Go.Proofs.Ytckkabiafikjfaa.Odx
open Go.RowKit
open Go.Proofs.Ytckkabiafikjfaa
open Am Vi

structure Bal where
  free : Int
  held : Int
structure Bal.ok (b : Bal) : Prop where
  free : rg b.free
  held : rg b.held
def Bal.cells (b : Bal) : Array Value := #[.int .i64 b.free, .int .i64 b.held]
def fitI (b : Bal) : Int := if b.free < 0 ∨ b.held < 0 then 25 else erv (b.free + b.held)
theorem fits_any (b : Bal) (h : b.ok) (w : World) : Calls Try.prog 11 #[.agg b.cells] w (Ans w (.int .i64 (fitI b))) := by
  obtain ⟨free, held⟩ := b
  have cA := Lib.hid (add_any free held h.free h.held)
  unfold fitI Bal.cells
  simp only
  clear h
  by_cases h : free < 0 ∨ held < 0
  · rw [if_pos h]
    clear cA
    by_cases h0 : free < 0
    · clear h
      go_enter Try.func11, Try.ntmps11
      go_wp2
      go_ret
      exact ⟨rfl, alloc_below _ _⟩
    · have h1 : held < 0 := by omega
      clear h
      go_enter Try.func11, Try.ntmps11
      go_wp2
      go_ret
      exact ⟨rfl, alloc_below _ _⟩
  · rw [if_neg h]
    have h0 : ¬ free < 0 := by omega
    have h1 : ¬ held < 0 := by omega
    clear h
    go_enter Try.func11, Try.ntmps11
    go_wp2_with (go_at_call 24; (with_reducible refine (cA.out _).mono ?_); rintro e w1 ⟨rfl, hb⟩)
    go_ret
    exact ⟨rfl, on_alloc hb⟩
/-- A balance's bytes. -/
def mb (b : Bal) : List UInt8 := vnum (zig b.free) ++ vnum (zig b.held)
theorem bal_cells {w : World} {b : Nat} {x y : Value} (h : w.heap[b]? = some (.cells #[x, y] 26 (0, 0))) : w.cell? ⟨b, 0, none⟩ = some x ∧ w.cell? ⟨b, 1, none⟩ = some y :=
  ⟨cell_at h 0 _ rfl, cell_at h 1 _ rfl⟩
theorem bal_on {w w2 : World} {x y : Value} (hb : Below (w.alloc (.cells #[x, y] 26)).heap.size (w.alloc (.cells #[x, y] 26)) w2) : w2.cell? ⟨w.heap.size, 0, none⟩ = some x ∧ w2.cell? ⟨w.heap.size, 1, none⟩ = some y :=
  bal_cells ((hb.block w.heap.size (by simp)).trans (heap_alloc_new w _))
structure Bx (w : World) (b : Bal) (wx : World) : Prop where
  box : wx.heap[w.heap.size]? = some (.cells b.cells 26 (0, 0))
  below : Below w.heap.size w wx
theorem bx_new (w : World) (b : Bal) : Bx w b (w.alloc (.cells b.cells 26)) := ⟨heap_alloc_new w _, alloc_below w _⟩
theorem bx_drew {w wx : World} {b : Bal} (h : Bx w b wx) : Bx w b wx.drew := ⟨h.box, draw_below h.below⟩
theorem bx_on {w wx w2 : World} {b : Bal} (h : Bx w b wx) (hb : Below wx.heap.size wx w2) : Bx w b w2 :=
  ⟨(hb.block _ (Array.getElem?_eq_some_iff.1 h.box).1).trans h.box, h.below.trans (hb.mono h.below.size)⟩
theorem bx_cells {w wx : World} {b : Bal} (h : Bx w b wx) : wx.cell? ⟨w.heap.size, 0, none⟩ = some (.int .i64 b.free) ∧ wx.cell? ⟨w.heap.size, 1, none⟩ = some (.int .i64 b.held) :=
  ⟨cell_at h.box 0 _ rfl, cell_at h.box 1 _ rfl⟩
set_option maxHeartbeats 1000000 in
set_option maxRecDepth 100000 in
theorem money_any (b : Bal) (h : b.ok) (w : World) : Calls Try.prog 10 #[.agg b.cells] w (Ans w (.string (bs (mb b)))) := by
  obtain ⟨free, held⟩ := b
  have c1 := Lib.hid (signed_any free h.free.1 h.free.2)
  have c2 := Lib.hid (signed_any held h.held.1 h.held.2)
  have z1 : (bs (vnum (zig free))).size ≤ 10 := by rw [bs_size]; exact vnum_len10 (zig_lt h.free.1 h.free.2)
  have z2 : (bs (vnum (zig held))).size ≤ 10 := by rw [bs_size]; exact vnum_len10 (zig_lt h.held.1 h.held.2)
  have X0 := Lib.hid (bx_new w ⟨free, held⟩)
  unfold mb
  rw [← bs_append]
  unfold Bal.cells at *
  simp only at *
  clear h
  generalize bs (vnum (zig free)) = s1 at *
  generalize bs (vnum (zig held)) = s2 at *
  have hg : ¬ (9223372036854775807 < s1.size + s2.size) := by omega
  go_enter Try.func10, Try.ntmps10
  go_wp2
  refine wp_region_noPanic ?_
  refine wp_region_held_drew (S := (fun wx => Bx w ⟨free, held⟩ wx)) (by kernel_rfl) (bx_drew X0.out) (fun HS => ?_)
  refine wpAnyH_take (S := (fun wx => Bx w ⟨free, held⟩ wx)) (i := 0) (oi := { dst := some 3, op := Go.Op.fieldAddr 26 (Go.Operand.tmp 1) 0, type := 0, pos := "order.go:72", after := #[], guard := none }) (v := ?va0) rfl (by kernel_rfl) (by kernel_rfl) (by kernel_rfl) (fun _ _ _ h => h) (Or.inl ⟨by rfl, ?ya0⟩) HS ?ra0
  case ya0 => (intro wx hSw; obtain ⟨q0, q1⟩ := bx_cells hSw; simp only at q0 q1; go_simp; first | done | with_reducible rfl | (intro hh; omega) | skip)
  try simp only [Act.put, List.setIfInBounds_toArray, List.set_cons_zero, List.set_cons_succ]
  refine wpAnyH_take (S := (fun wx => Bx w ⟨free, held⟩ wx)) (i := 1) (oi := { dst := some 4, op := Go.Op.load 2 (Go.Operand.tmp 3), type := 2, pos := "order.go:72", after := #[{ on := 0, ground := Go.Ground.data }], guard := none }) (v := ?va1) rfl (by kernel_rfl) (by kernel_rfl) (by kernel_rfl) (fun _ _ _ h => h) (Or.inl ⟨by rfl, ?ya1⟩) HS ?ra1
  case ya1 => (intro wx hSw; obtain ⟨q0, q1⟩ := bx_cells hSw; simp only at q0 q1; go_simp; first | done | with_reducible rfl | (intro hh; omega) | skip)
  try simp only [Act.put, List.setIfInBounds_toArray, List.set_cons_zero, List.set_cons_succ]
  refine wpAnyH_take (S := (fun wx => Bx w ⟨free, held⟩ wx)) (i := 3) (oi := { dst := some 6, op := Go.Op.fieldAddr 26 (Go.Operand.tmp 1) 1, type := 0, pos := "order.go:72", after := #[], guard := none }) (v := ?va3) rfl (by kernel_rfl) (by kernel_rfl) (by kernel_rfl) (fun _ _ _ h => h) (Or.inl ⟨by rfl, ?ya3⟩) HS ?ra3
  case ya3 => (intro wx hSw; obtain ⟨q0, q1⟩ := bx_cells hSw; simp only at q0 q1; go_simp; first | done | with_reducible rfl | (intro hh; omega) | skip)
  try simp only [Act.put, List.setIfInBounds_toArray, List.set_cons_zero, List.set_cons_succ]
  refine wpAnyH_take (S := (fun wx => Bx w ⟨free, held⟩ wx)) (i := 4) (oi := { dst := some 7, op := Go.Op.load 2 (Go.Operand.tmp 6), type := 2, pos := "order.go:72", after := #[{ on := 3, ground := Go.Ground.data }], guard := none }) (v := ?va4) rfl (by kernel_rfl) (by kernel_rfl) (by kernel_rfl) (fun _ _ _ h => h) (Or.inl ⟨by rfl, ?ya4⟩) HS ?ra4
  case ya4 => (intro wx hSw; obtain ⟨q0, q1⟩ := bx_cells hSw; simp only at q0 q1; go_simp; first | done | with_reducible rfl | (intro hh; omega) | skip)
  try simp only [Act.put, List.setIfInBounds_toArray, List.set_cons_zero, List.set_cons_succ]
  refine wpAnyH_ready (rs := [2]) (by kernel_rfl) (by simp) ?_
  refine AllReadyH.cons (o := { dst := some 5, op := Go.Op.call { callee := Go.Callee.value (Go.Operand.func 21), args := #[Go.Operand.tmp 4], argTypes := #[2] }, type := 9, pos := "order.go:72", after := #[{ on := 1, ground := Go.Ground.data }], guard := none }) rfl (fun K hK => ?_) AllReadyH.nil
  go_simp
  refine (c1.out _).mono ?_; rintro e w2 ⟨rfl, b2⟩
  refine hK.out _ _ (bx_on HS b2) (fun HS => ?_)
  try simp only [Act.put, List.setIfInBounds_toArray, List.set_cons_zero, List.set_cons_succ]
  refine wpAnyH_ready (rs := [5]) (by kernel_rfl) (by simp) ?_
  refine AllReadyH.cons (o := { dst := some 8, op := Go.Op.call { callee := Go.Callee.value (Go.Operand.func 21), args := #[Go.Operand.tmp 7], argTypes := #[2] }, type := 9, pos := "order.go:72", after := #[{ on := 4, ground := Go.Ground.data }, { on := 2, ground := Go.Ground.chain }], guard := none }) rfl (fun K hK => ?_) AllReadyH.nil
  go_simp
  refine (c2.out _).mono ?_; rintro e w5 ⟨rfl, b5⟩
  refine hK.out _ _ (bx_on HS b5) (fun HS => ?_)
  try simp only [Act.put, List.setIfInBounds_toArray, List.set_cons_zero, List.set_cons_succ]
  refine wpAnyH_take (S := (fun wx => Bx w ⟨free, held⟩ wx)) (i := 6) (oi := { dst := some 9, op := Go.Op.binOp Go.BinOp.add 9 (Go.Operand.tmp 5) (Go.Operand.tmp 8) 9, type := 9, pos := "order.go:72", after := #[{ on := 2, ground := Go.Ground.data }, { on := 5, ground := Go.Ground.data }], guard := none }) (v := ?va6) rfl (by kernel_rfl) (by kernel_rfl) (by kernel_rfl) (fun _ _ _ h => h) (Or.inl ⟨by rfl, ?ya6⟩) HS ?ra6
  case ya6 => (intro wx hSw; obtain ⟨q0, q1⟩ := bx_cells hSw; simp only at q0 q1; go_simp; first | done | with_reducible rfl | (intro hh; omega) | skip)
  try simp only [Act.put, List.setIfInBounds_toArray, List.set_cons_zero, List.set_cons_succ]
  refine wpAnyH_take (S := (fun wx => Bx w ⟨free, held⟩ wx)) (i := 7) (oi := { dst := some 2, op := Go.Op.assign (Go.Operand.tmp 9), type := 9, pos := "order.go:72", after := #[{ on := 6, ground := Go.Ground.data }, { on := 5, ground := Go.Ground.chain }, { on := 0, ground := Go.Ground.phase }, { on := 1, ground := Go.Ground.phase }, { on := 2, ground := Go.Ground.phase }, { on := 3, ground := Go.Ground.phase }, { on := 4, ground := Go.Ground.phase }, { on := 5, ground := Go.Ground.phase }, { on := 6, ground := Go.Ground.phase }], guard := none }) (v := ?va7) rfl (by kernel_rfl) (by kernel_rfl) (by kernel_rfl) (fun _ _ _ h => h) (Or.inl ⟨by rfl, ?ya7⟩) HS ?ra7
  case ya7 => (intro wx hSw; obtain ⟨q0, q1⟩ := bx_cells hSw; simp only at q0 q1; go_simp; first | done | with_reducible rfl | (intro hh; omega) | skip)
  try simp only [Act.put, List.setIfInBounds_toArray, List.set_cons_zero, List.set_cons_succ]
  refine wpAnyH_done (by kernel_rfl) ?_ _
  refine NoPanic.normal ?_
  go_wp2
  go_ret
  exact ⟨rfl, HS.below⟩
/-- An order's bytes. -/
def u64 (n : Int) : Nat := (n % 18446744073709551616).toNat
theorem u64_lt (n : Int) : u64 n < 18446744073709551616 := by unfold u64; omega
theorem u64_wrap (n : Int) : IntKind.u64.wrap n = (u64 n : Int) := by rw [IntKind.wrap_u64]; unfold u64; omega
def ob (o : Odr) : List UInt8 :=
  vnum o.account ++ vnum (u64 o.side) ++ vnum (zig o.price) ++ vnum (zig o.size) ++ vnum (zig o.left) ++ vnum o.rank ++ vnum o.expiry ++ vnum (u64 o.state)
structure Ox (w : World) (o : Odr) (wx : World) : Prop where
  box : Box wx w.heap.size o
  below : Below w.heap.size w wx
theorem ox_new (w : World) (o : Odr) : Ox w o (w.alloc (.cells o.cells 24)) := ⟨box_new w o, alloc_below w _⟩
theorem ox_on {w wx w2 : World} {o : Odr} (h : Ox w o wx) (hb : Below wx.heap.size wx w2) : Ox w o w2 := ⟨box_kept h.box hb, h.below.trans (hb.mono h.below.size)⟩
theorem ox_drew {w wx : World} {o : Odr} (h : Ox w o wx) : Ox w o wx.drew := ⟨h.box, draw_below h.below⟩
theorem num_len {n : Nat} (h : n < 18446744073709551616) : (bs (vnum n)).size ≤ 10 := by rw [bs_size]; exact vnum_len10 h
theorem sig_len {n : Int} (h : rg n) : (bs (vnum (zig n))).size ≤ 10 := num_len (zig_lt h.1 h.2)
theorem cat_size (a b : ByteArray) : (a ++ b).size = a.size + b.size := ByteArray.size_append
set_option maxHeartbeats 4000000 in
set_option maxRecDepth 100000 in
theorem bytes_any (o : Odr) (h : o.ok) (w : World) : Calls Try.prog 7 #[.agg o.cells] w (Ans w (.string (bs (ob o)))) := by
  obtain ⟨id, account, side, price, size, left, rank, expiry, state⟩ := o
  have X0 := Lib.hid (ox_new w ⟨id, account, side, price, size, left, rank, expiry, state⟩)
  have e1 := u64_wrap side
  have e2 := u64_wrap state
  have c1 := Lib.hid (num_any account h.account)
  have c2 := Lib.hid (num_any (u64 side) (u64_lt _))
  have c3 := Lib.hid (signed_any price h.price.1 h.price.2)
  have c4 := Lib.hid (signed_any size h.size.1 h.size.2)
  have c5 := Lib.hid (signed_any left h.left.1 h.left.2)
  have c6 := Lib.hid (num_any rank h.rank)
  have c7 := Lib.hid (num_any expiry h.expiry)
  have c8 := Lib.hid (num_any (u64 state) (u64_lt _))
  have z1 := num_len h.account
  have z2 := num_len (u64_lt side)
  have z3 := sig_len h.price
  have z4 := sig_len h.size
  have z5 := sig_len h.left
  have z6 := num_len h.rank
  have z7 := num_len h.expiry
  have z8 := num_len (u64_lt state)
  unfold ob
  simp only [← bs_append]
  unfold Odr.cells at *
  simp only at *
  clear h
  generalize u64 side = sd at *
  generalize u64 state = st at *
  generalize bs (vnum account) = s1 at *
  generalize bs (vnum sd) = s2 at *
  generalize bs (vnum (zig price)) = s3 at *
  generalize bs (vnum (zig size)) = s4 at *
  generalize bs (vnum (zig left)) = s5 at *
  generalize bs (vnum rank) = s6 at *
  generalize bs (vnum expiry) = s7 at *
  generalize bs (vnum st) = s8 at *
  have g2 : ¬ (9223372036854775807 < s1.size + s2.size) := by omega
  have g3 : ¬ (9223372036854775807 < s1.size + s2.size + s3.size) := by omega
  have g4 : ¬ (9223372036854775807 < s1.size + s2.size + s3.size + s4.size) := by omega
  have g5 : ¬ (9223372036854775807 < s1.size + s2.size + s3.size + s4.size + s5.size) := by omega
  have g6 : ¬ (9223372036854775807 < s1.size + s2.size + s3.size + s4.size + s5.size + s6.size) := by omega
  have g7 : ¬ (9223372036854775807 < s1.size + s2.size + s3.size + s4.size + s5.size + s6.size + s7.size) := by omega
  have g8 : ¬ (9223372036854775807 < s1.size + s2.size + s3.size + s4.size + s5.size + s6.size + s7.size + s8.size) := by omega
  go_enter Try.func7, Try.ntmps7
  go_wp2
  refine wp_region_noPanic ?_
  refine wp_region_held_drew (S := (fun wx => Ox w ⟨id, account, side, price, size, left, rank, expiry, state⟩ wx)) (by kernel_rfl) (ox_drew X0.out) (fun HS => ?_)
  refine wpAnyH_take (S := (fun wx => Ox w ⟨id, account, side, price, size, left, rank, expiry, state⟩ wx)) (i := 0) (oi := { dst := some 3, op := Go.Op.fieldAddr 24 (Go.Operand.tmp 1) 1, type := 0, pos := "order.go:34", after := #[], guard := none }) (v := ?va0) rfl (by kernel_rfl) (by kernel_rfl) (by kernel_rfl) (fun _ _ _ h => h) (Or.inl ⟨by rfl, ?ya0⟩) HS ?ra0
  case ya0 => (intro wx hSw; obtain ⟨q0, q1, q2, q3, q4, q5, q6, q7, q8⟩ := box_cells hSw.box; simp only at q0 q1 q2 q3 q4 q5 q6 q7 q8; go_simp; first | done | with_reducible rfl | (intro hh; omega) | skip)
  try simp only [Act.put, List.setIfInBounds_toArray, List.set_cons_zero, List.set_cons_succ]
  refine wpAnyH_take (S := (fun wx => Ox w ⟨id, account, side, price, size, left, rank, expiry, state⟩ wx)) (i := 1) (oi := { dst := some 4, op := Go.Op.load 22 (Go.Operand.tmp 3), type := 22, pos := "order.go:34", after := #[{ on := 0, ground := Go.Ground.data }], guard := none }) (v := ?va1) rfl (by kernel_rfl) (by kernel_rfl) (by kernel_rfl) (fun _ _ _ h => h) (Or.inl ⟨by rfl, ?ya1⟩) HS ?ra1
  case ya1 => (intro wx hSw; obtain ⟨q0, q1, q2, q3, q4, q5, q6, q7, q8⟩ := box_cells hSw.box; simp only at q0 q1 q2 q3 q4 q5 q6 q7 q8; go_simp; first | done | with_reducible rfl | (intro hh; omega) | skip)
  try simp only [Act.put, List.setIfInBounds_toArray, List.set_cons_zero, List.set_cons_succ]
  refine wpAnyH_take (S := (fun wx => Ox w ⟨id, account, side, price, size, left, rank, expiry, state⟩ wx)) (i := 3) (oi := { dst := some 6, op := Go.Op.fieldAddr 24 (Go.Operand.tmp 1) 2, type := 0, pos := "order.go:34", after := #[], guard := none }) (v := ?va3) rfl (by kernel_rfl) (by kernel_rfl) (by kernel_rfl) (fun _ _ _ h => h) (Or.inl ⟨by rfl, ?ya3⟩) HS ?ra3
  case ya3 => (intro wx hSw; obtain ⟨q0, q1, q2, q3, q4, q5, q6, q7, q8⟩ := box_cells hSw.box; simp only at q0 q1 q2 q3 q4 q5 q6 q7 q8; go_simp; first | done | with_reducible rfl | (intro hh; omega) | skip)
  try simp only [Act.put, List.setIfInBounds_toArray, List.set_cons_zero, List.set_cons_succ]
  refine wpAnyH_take (S := (fun wx => Ox w ⟨id, account, side, price, size, left, rank, expiry, state⟩ wx)) (i := 4) (oi := { dst := some 7, op := Go.Op.load 3 (Go.Operand.tmp 6), type := 3, pos := "order.go:34", after := #[{ on := 3, ground := Go.Ground.data }], guard := none }) (v := ?va4) rfl (by kernel_rfl) (by kernel_rfl) (by kernel_rfl) (fun _ _ _ h => h) (Or.inl ⟨by rfl, ?ya4⟩) HS ?ra4
  case ya4 => (intro wx hSw; obtain ⟨q0, q1, q2, q3, q4, q5, q6, q7, q8⟩ := box_cells hSw.box; simp only at q0 q1 q2 q3 q4 q5 q6 q7 q8; go_simp; first | done | with_reducible rfl | (intro hh; omega) | skip)
  try simp only [Act.put, List.setIfInBounds_toArray, List.set_cons_zero, List.set_cons_succ]
  refine wpAnyH_take (S := (fun wx => Ox w ⟨id, account, side, price, size, left, rank, expiry, state⟩ wx)) (i := 5) (oi := { dst := some 8, op := Go.Op.convert 3 22 (Go.Operand.tmp 7), type := 22, pos := "order.go:34", after := #[{ on := 4, ground := Go.Ground.data }], guard := none }) (v := .int .u64 (sd : Int)) rfl (by kernel_rfl) (by kernel_rfl) (by kernel_rfl) (fun _ _ _ h => h) (Or.inl ⟨by rfl, ?ya5⟩) HS ?ra5
  case ya5 => (intro wx hSw; obtain ⟨q0, q1, q2, q3, q4, q5, q6, q7, q8⟩ := box_cells hSw.box; simp only at q0 q1 q2 q3 q4 q5 q6 q7 q8; go_simp; first | done | with_reducible rfl | (intro hh; omega) | skip)
  try simp only [Act.put, List.setIfInBounds_toArray, List.set_cons_zero, List.set_cons_succ]
  refine wpAnyH_take (S := (fun wx => Ox w ⟨id, account, side, price, size, left, rank, expiry, state⟩ wx)) (i := 8) (oi := { dst := some 11, op := Go.Op.fieldAddr 24 (Go.Operand.tmp 1) 3, type := 0, pos := "order.go:34", after := #[], guard := none }) (v := ?va8) rfl (by kernel_rfl) (by kernel_rfl) (by kernel_rfl) (fun _ _ _ h => h) (Or.inl ⟨by rfl, ?ya8⟩) HS ?ra8
  case ya8 => (intro wx hSw; obtain ⟨q0, q1, q2, q3, q4, q5, q6, q7, q8⟩ := box_cells hSw.box; simp only at q0 q1 q2 q3 q4 q5 q6 q7 q8; go_simp; first | done | with_reducible rfl | (intro hh; omega) | skip)
  try simp only [Act.put, List.setIfInBounds_toArray, List.set_cons_zero, List.set_cons_succ]
  refine wpAnyH_take (S := (fun wx => Ox w ⟨id, account, side, price, size, left, rank, expiry, state⟩ wx)) (i := 9) (oi := { dst := some 12, op := Go.Op.load 2 (Go.Operand.tmp 11), type := 2, pos := "order.go:34", after := #[{ on := 8, ground := Go.Ground.data }], guard := none }) (v := ?va9) rfl (by kernel_rfl) (by kernel_rfl) (by kernel_rfl) (fun _ _ _ h => h) (Or.inl ⟨by rfl, ?ya9⟩) HS ?ra9
  case ya9 => (intro wx hSw; obtain ⟨q0, q1, q2, q3, q4, q5, q6, q7, q8⟩ := box_cells hSw.box; simp only at q0 q1 q2 q3 q4 q5 q6 q7 q8; go_simp; first | done | with_reducible rfl | (intro hh; omega) | skip)
  try simp only [Act.put, List.setIfInBounds_toArray, List.set_cons_zero, List.set_cons_succ]
  refine wpAnyH_take (S := (fun wx => Ox w ⟨id, account, side, price, size, left, rank, expiry, state⟩ wx)) (i := 12) (oi := { dst := some 15, op := Go.Op.fieldAddr 24 (Go.Operand.tmp 1) 4, type := 0, pos := "order.go:34", after := #[], guard := none }) (v := ?va12) rfl (by kernel_rfl) (by kernel_rfl) (by kernel_rfl) (fun _ _ _ h => h) (Or.inl ⟨by rfl, ?ya12⟩) HS ?ra12
  case ya12 => (intro wx hSw; obtain ⟨q0, q1, q2, q3, q4, q5, q6, q7, q8⟩ := box_cells hSw.box; simp only at q0 q1 q2 q3 q4 q5 q6 q7 q8; go_simp; first | done | with_reducible rfl | (intro hh; omega) | skip)
  try simp only [Act.put, List.setIfInBounds_toArray, List.set_cons_zero, List.set_cons_succ]
  refine wpAnyH_take (S := (fun wx => Ox w ⟨id, account, side, price, size, left, rank, expiry, state⟩ wx)) (i := 13) (oi := { dst := some 16, op := Go.Op.load 2 (Go.Operand.tmp 15), type := 2, pos := "order.go:34", after := #[{ on := 12, ground := Go.Ground.data }], guard := none }) (v := ?va13) rfl (by kernel_rfl) (by kernel_rfl) (by kernel_rfl) (fun _ _ _ h => h) (Or.inl ⟨by rfl, ?ya13⟩) HS ?ra13
  case ya13 => (intro wx hSw; obtain ⟨q0, q1, q2, q3, q4, q5, q6, q7, q8⟩ := box_cells hSw.box; simp only at q0 q1 q2 q3 q4 q5 q6 q7 q8; go_simp; first | done | with_reducible rfl | (intro hh; omega) | skip)
  try simp only [Act.put, List.setIfInBounds_toArray, List.set_cons_zero, List.set_cons_succ]
  refine wpAnyH_take (S := (fun wx => Ox w ⟨id, account, side, price, size, left, rank, expiry, state⟩ wx)) (i := 16) (oi := { dst := some 19, op := Go.Op.fieldAddr 24 (Go.Operand.tmp 1) 5, type := 0, pos := "order.go:34", after := #[], guard := none }) (v := ?va16) rfl (by kernel_rfl) (by kernel_rfl) (by kernel_rfl) (fun _ _ _ h => h) (Or.inl ⟨by rfl, ?ya16⟩) HS ?ra16
  case ya16 => (intro wx hSw; obtain ⟨q0, q1, q2, q3, q4, q5, q6, q7, q8⟩ := box_cells hSw.box; simp only at q0 q1 q2 q3 q4 q5 q6 q7 q8; go_simp; first | done | with_reducible rfl | (intro hh; omega) | skip)
  try simp only [Act.put, List.setIfInBounds_toArray, List.set_cons_zero, List.set_cons_succ]
  refine wpAnyH_take (S := (fun wx => Ox w ⟨id, account, side, price, size, left, rank, expiry, state⟩ wx)) (i := 17) (oi := { dst := some 20, op := Go.Op.load 2 (Go.Operand.tmp 19), type := 2, pos := "order.go:34", after := #[{ on := 16, ground := Go.Ground.data }], guard := none }) (v := ?va17) rfl (by kernel_rfl) (by kernel_rfl) (by kernel_rfl) (fun _ _ _ h => h) (Or.inl ⟨by rfl, ?ya17⟩) HS ?ra17
  case ya17 => (intro wx hSw; obtain ⟨q0, q1, q2, q3, q4, q5, q6, q7, q8⟩ := box_cells hSw.box; simp only at q0 q1 q2 q3 q4 q5 q6 q7 q8; go_simp; first | done | with_reducible rfl | (intro hh; omega) | skip)
  try simp only [Act.put, List.setIfInBounds_toArray, List.set_cons_zero, List.set_cons_succ]
  refine wpAnyH_take (S := (fun wx => Ox w ⟨id, account, side, price, size, left, rank, expiry, state⟩ wx)) (i := 20) (oi := { dst := some 23, op := Go.Op.fieldAddr 24 (Go.Operand.tmp 1) 6, type := 0, pos := "order.go:34", after := #[], guard := none }) (v := ?va20) rfl (by kernel_rfl) (by kernel_rfl) (by kernel_rfl) (fun _ _ _ h => h) (Or.inl ⟨by rfl, ?ya20⟩) HS ?ra20
  case ya20 => (intro wx hSw; obtain ⟨q0, q1, q2, q3, q4, q5, q6, q7, q8⟩ := box_cells hSw.box; simp only at q0 q1 q2 q3 q4 q5 q6 q7 q8; go_simp; first | done | with_reducible rfl | (intro hh; omega) | skip)
  try simp only [Act.put, List.setIfInBounds_toArray, List.set_cons_zero, List.set_cons_succ]
  refine wpAnyH_take (S := (fun wx => Ox w ⟨id, account, side, price, size, left, rank, expiry, state⟩ wx)) (i := 21) (oi := { dst := some 24, op := Go.Op.load 22 (Go.Operand.tmp 23), type := 22, pos := "order.go:34", after := #[{ on := 20, ground := Go.Ground.data }], guard := none }) (v := ?va21) rfl (by kernel_rfl) (by kernel_rfl) (by kernel_rfl) (fun _ _ _ h => h) (Or.inl ⟨by rfl, ?ya21⟩) HS ?ra21
  case ya21 => (intro wx hSw; obtain ⟨q0, q1, q2, q3, q4, q5, q6, q7, q8⟩ := box_cells hSw.box; simp only at q0 q1 q2 q3 q4 q5 q6 q7 q8; go_simp; first | done | with_reducible rfl | (intro hh; omega) | skip)
  try simp only [Act.put, List.setIfInBounds_toArray, List.set_cons_zero, List.set_cons_succ]
  refine wpAnyH_take (S := (fun wx => Ox w ⟨id, account, side, price, size, left, rank, expiry, state⟩ wx)) (i := 24) (oi := { dst := some 27, op := Go.Op.fieldAddr 24 (Go.Operand.tmp 1) 7, type := 0, pos := "order.go:34", after := #[], guard := none }) (v := ?va24) rfl (by kernel_rfl) (by kernel_rfl) (by kernel_rfl) (fun _ _ _ h => h) (Or.inl ⟨by rfl, ?ya24⟩) HS ?ra24
  case ya24 => (intro wx hSw; obtain ⟨q0, q1, q2, q3, q4, q5, q6, q7, q8⟩ := box_cells hSw.box; simp only at q0 q1 q2 q3 q4 q5 q6 q7 q8; go_simp; first | done | with_reducible rfl | (intro hh; omega) | skip)
  try simp only [Act.put, List.setIfInBounds_toArray, List.set_cons_zero, List.set_cons_succ]
  refine wpAnyH_take (S := (fun wx => Ox w ⟨id, account, side, price, size, left, rank, expiry, state⟩ wx)) (i := 25) (oi := { dst := some 28, op := Go.Op.load 22 (Go.Operand.tmp 27), type := 22, pos := "order.go:34", after := #[{ on := 24, ground := Go.Ground.data }], guard := none }) (v := ?va25) rfl (by kernel_rfl) (by kernel_rfl) (by kernel_rfl) (fun _ _ _ h => h) (Or.inl ⟨by rfl, ?ya25⟩) HS ?ra25
  case ya25 => (intro wx hSw; obtain ⟨q0, q1, q2, q3, q4, q5, q6, q7, q8⟩ := box_cells hSw.box; simp only at q0 q1 q2 q3 q4 q5 q6 q7 q8; go_simp; first | done | with_reducible rfl | (intro hh; omega) | skip)
  try simp only [Act.put, List.setIfInBounds_toArray, List.set_cons_zero, List.set_cons_succ]
  refine wpAnyH_take (S := (fun wx => Ox w ⟨id, account, side, price, size, left, rank, expiry, state⟩ wx)) (i := 28) (oi := { dst := some 31, op := Go.Op.fieldAddr 24 (Go.Operand.tmp 1) 8, type := 0, pos := "order.go:34", after := #[], guard := none }) (v := ?va28) rfl (by kernel_rfl) (by kernel_rfl) (by kernel_rfl) (fun _ _ _ h => h) (Or.inl ⟨by rfl, ?ya28⟩) HS ?ra28
  case ya28 => (intro wx hSw; obtain ⟨q0, q1, q2, q3, q4, q5, q6, q7, q8⟩ := box_cells hSw.box; simp only at q0 q1 q2 q3 q4 q5 q6 q7 q8; go_simp; first | done | with_reducible rfl | (intro hh; omega) | skip)
  try simp only [Act.put, List.setIfInBounds_toArray, List.set_cons_zero, List.set_cons_succ]
  refine wpAnyH_take (S := (fun wx => Ox w ⟨id, account, side, price, size, left, rank, expiry, state⟩ wx)) (i := 29) (oi := { dst := some 32, op := Go.Op.load 3 (Go.Operand.tmp 31), type := 3, pos := "order.go:34", after := #[{ on := 28, ground := Go.Ground.data }], guard := none }) (v := ?va29) rfl (by kernel_rfl) (by kernel_rfl) (by kernel_rfl) (fun _ _ _ h => h) (Or.inl ⟨by rfl, ?ya29⟩) HS ?ra29
  case ya29 => (intro wx hSw; obtain ⟨q0, q1, q2, q3, q4, q5, q6, q7, q8⟩ := box_cells hSw.box; simp only at q0 q1 q2 q3 q4 q5 q6 q7 q8; go_simp; first | done | with_reducible rfl | (intro hh; omega) | skip)
  try simp only [Act.put, List.setIfInBounds_toArray, List.set_cons_zero, List.set_cons_succ]
  refine wpAnyH_take (S := (fun wx => Ox w ⟨id, account, side, price, size, left, rank, expiry, state⟩ wx)) (i := 30) (oi := { dst := some 33, op := Go.Op.convert 3 22 (Go.Operand.tmp 32), type := 22, pos := "order.go:34", after := #[{ on := 29, ground := Go.Ground.data }], guard := none }) (v := .int .u64 (st : Int)) rfl (by kernel_rfl) (by kernel_rfl) (by kernel_rfl) (fun _ _ _ h => h) (Or.inl ⟨by rfl, ?ya30⟩) HS ?ra30
  case ya30 => (intro wx hSw; obtain ⟨q0, q1, q2, q3, q4, q5, q6, q7, q8⟩ := box_cells hSw.box; simp only at q0 q1 q2 q3 q4 q5 q6 q7 q8; go_simp; first | done | with_reducible rfl | (intro hh; omega) | skip)
  try simp only [Act.put, List.setIfInBounds_toArray, List.set_cons_zero, List.set_cons_succ]
  refine wpAnyH_ready (rs := [2]) (by kernel_rfl) (by simp) ?_
  refine AllReadyH.cons (o := { dst := some 5, op := Go.Op.call { callee := Go.Callee.value (Go.Operand.func 20), args := #[Go.Operand.tmp 4], argTypes := #[22] }, type := 9, pos := "order.go:34", after := #[{ on := 1, ground := Go.Ground.data }], guard := none }) rfl (fun K hK => ?_) AllReadyH.nil
  go_simp
  refine (c1.out _).mono ?_; rintro e w2 ⟨rfl, b2⟩
  refine hK.out _ _ (ox_on HS b2) (fun HS => ?_)
  try simp only [Act.put, List.setIfInBounds_toArray, List.set_cons_zero, List.set_cons_succ]
  refine wpAnyH_ready (rs := [6]) (by kernel_rfl) (by simp) ?_
  refine AllReadyH.cons (o := { dst := some 9, op := Go.Op.call { callee := Go.Callee.value (Go.Operand.func 20), args := #[Go.Operand.tmp 8], argTypes := #[22] }, type := 9, pos := "order.go:34", after := #[{ on := 5, ground := Go.Ground.data }, { on := 2, ground := Go.Ground.chain }], guard := none }) rfl (fun K hK => ?_) AllReadyH.nil
  go_simp
  refine (c2.out _).mono ?_; rintro e w6 ⟨rfl, b6⟩
  refine hK.out _ _ (ox_on HS b6) (fun HS => ?_)
  try simp only [Act.put, List.setIfInBounds_toArray, List.set_cons_zero, List.set_cons_succ]
  refine wpAnyH_take (S := (fun wx => Ox w ⟨id, account, side, price, size, left, rank, expiry, state⟩ wx)) (i := 7) (oi := { dst := some 10, op := Go.Op.binOp Go.BinOp.add 9 (Go.Operand.tmp 5) (Go.Operand.tmp 9) 9, type := 9, pos := "order.go:34", after := #[{ on := 2, ground := Go.Ground.data }, { on := 6, ground := Go.Ground.data }], guard := none }) (v := ?va7) rfl (by kernel_rfl) (by kernel_rfl) (by kernel_rfl) (fun _ _ _ h => h) (Or.inl ⟨by rfl, ?ya7⟩) HS ?ra7
  case ya7 => (intro wx hSw; obtain ⟨q0, q1, q2, q3, q4, q5, q6, q7, q8⟩ := box_cells hSw.box; simp only at q0 q1 q2 q3 q4 q5 q6 q7 q8; go_simp; first | done | with_reducible rfl | (intro hh; omega) | skip)
  try simp only [Act.put, List.setIfInBounds_toArray, List.set_cons_zero, List.set_cons_succ]
  refine wpAnyH_ready (rs := [10]) (by kernel_rfl) (by simp) ?_
  refine AllReadyH.cons (o := { dst := some 13, op := Go.Op.call { callee := Go.Callee.value (Go.Operand.func 21), args := #[Go.Operand.tmp 12], argTypes := #[2] }, type := 9, pos := "order.go:35", after := #[{ on := 9, ground := Go.Ground.data }, { on := 6, ground := Go.Ground.chain }], guard := none }) rfl (fun K hK => ?_) AllReadyH.nil
  go_simp
  refine (c3.out _).mono ?_; rintro e w10 ⟨rfl, b10⟩
  refine hK.out _ _ (ox_on HS b10) (fun HS => ?_)
  try simp only [Act.put, List.setIfInBounds_toArray, List.set_cons_zero, List.set_cons_succ]
  refine wpAnyH_take (S := (fun wx => Ox w ⟨id, account, side, price, size, left, rank, expiry, state⟩ wx)) (i := 11) (oi := { dst := some 14, op := Go.Op.binOp Go.BinOp.add 9 (Go.Operand.tmp 10) (Go.Operand.tmp 13) 9, type := 9, pos := "order.go:34", after := #[{ on := 7, ground := Go.Ground.data }, { on := 10, ground := Go.Ground.data }], guard := none }) (v := ?va11) rfl (by kernel_rfl) (by kernel_rfl) (by kernel_rfl) (fun _ _ _ h => h) (Or.inl ⟨by rfl, ?ya11⟩) HS ?ra11
  case ya11 => (intro wx hSw; obtain ⟨q0, q1, q2, q3, q4, q5, q6, q7, q8⟩ := box_cells hSw.box; simp only at q0 q1 q2 q3 q4 q5 q6 q7 q8; go_simp; first | done | with_reducible rfl | (intro hh; omega) | skip)
  try simp only [Act.put, List.setIfInBounds_toArray, List.set_cons_zero, List.set_cons_succ]
  refine wpAnyH_ready (rs := [14]) (by kernel_rfl) (by simp) ?_
  refine AllReadyH.cons (o := { dst := some 17, op := Go.Op.call { callee := Go.Callee.value (Go.Operand.func 21), args := #[Go.Operand.tmp 16], argTypes := #[2] }, type := 9, pos := "order.go:35", after := #[{ on := 13, ground := Go.Ground.data }, { on := 10, ground := Go.Ground.chain }], guard := none }) rfl (fun K hK => ?_) AllReadyH.nil
  go_simp
  refine (c4.out _).mono ?_; rintro e w14 ⟨rfl, b14⟩
  refine hK.out _ _ (ox_on HS b14) (fun HS => ?_)
  try simp only [Act.put, List.setIfInBounds_toArray, List.set_cons_zero, List.set_cons_succ]
  refine wpAnyH_take (S := (fun wx => Ox w ⟨id, account, side, price, size, left, rank, expiry, state⟩ wx)) (i := 15) (oi := { dst := some 18, op := Go.Op.binOp Go.BinOp.add 9 (Go.Operand.tmp 14) (Go.Operand.tmp 17) 9, type := 9, pos := "order.go:34", after := #[{ on := 11, ground := Go.Ground.data }, { on := 14, ground := Go.Ground.data }], guard := none }) (v := ?va15) rfl (by kernel_rfl) (by kernel_rfl) (by kernel_rfl) (fun _ _ _ h => h) (Or.inl ⟨by rfl, ?ya15⟩) HS ?ra15
  case ya15 => (intro wx hSw; obtain ⟨q0, q1, q2, q3, q4, q5, q6, q7, q8⟩ := box_cells hSw.box; simp only at q0 q1 q2 q3 q4 q5 q6 q7 q8; go_simp; first | done | with_reducible rfl | (intro hh; omega) | skip)
  try simp only [Act.put, List.setIfInBounds_toArray, List.set_cons_zero, List.set_cons_succ]
  refine wpAnyH_ready (rs := [18]) (by kernel_rfl) (by simp) ?_
  refine AllReadyH.cons (o := { dst := some 21, op := Go.Op.call { callee := Go.Callee.value (Go.Operand.func 21), args := #[Go.Operand.tmp 20], argTypes := #[2] }, type := 9, pos := "order.go:35", after := #[{ on := 17, ground := Go.Ground.data }, { on := 14, ground := Go.Ground.chain }], guard := none }) rfl (fun K hK => ?_) AllReadyH.nil
  go_simp
  refine (c5.out _).mono ?_; rintro e w18 ⟨rfl, b18⟩
  refine hK.out _ _ (ox_on HS b18) (fun HS => ?_)
  try simp only [Act.put, List.setIfInBounds_toArray, List.set_cons_zero, List.set_cons_succ]
  refine wpAnyH_take (S := (fun wx => Ox w ⟨id, account, side, price, size, left, rank, expiry, state⟩ wx)) (i := 19) (oi := { dst := some 22, op := Go.Op.binOp Go.BinOp.add 9 (Go.Operand.tmp 18) (Go.Operand.tmp 21) 9, type := 9, pos := "order.go:34", after := #[{ on := 15, ground := Go.Ground.data }, { on := 18, ground := Go.Ground.data }], guard := none }) (v := ?va19) rfl (by kernel_rfl) (by kernel_rfl) (by kernel_rfl) (fun _ _ _ h => h) (Or.inl ⟨by rfl, ?ya19⟩) HS ?ra19
  case ya19 => (intro wx hSw; obtain ⟨q0, q1, q2, q3, q4, q5, q6, q7, q8⟩ := box_cells hSw.box; simp only at q0 q1 q2 q3 q4 q5 q6 q7 q8; go_simp; first | done | with_reducible rfl | (intro hh; omega) | skip)
  try simp only [Act.put, List.setIfInBounds_toArray, List.set_cons_zero, List.set_cons_succ]
  refine wpAnyH_ready (rs := [22]) (by kernel_rfl) (by simp) ?_
  refine AllReadyH.cons (o := { dst := some 25, op := Go.Op.call { callee := Go.Callee.value (Go.Operand.func 20), args := #[Go.Operand.tmp 24], argTypes := #[22] }, type := 9, pos := "order.go:36", after := #[{ on := 21, ground := Go.Ground.data }, { on := 18, ground := Go.Ground.chain }], guard := none }) rfl (fun K hK => ?_) AllReadyH.nil
  go_simp
  refine (c6.out _).mono ?_; rintro e w22 ⟨rfl, b22⟩
  refine hK.out _ _ (ox_on HS b22) (fun HS => ?_)
  try simp only [Act.put, List.setIfInBounds_toArray, List.set_cons_zero, List.set_cons_succ]
  refine wpAnyH_take (S := (fun wx => Ox w ⟨id, account, side, price, size, left, rank, expiry, state⟩ wx)) (i := 23) (oi := { dst := some 26, op := Go.Op.binOp Go.BinOp.add 9 (Go.Operand.tmp 22) (Go.Operand.tmp 25) 9, type := 9, pos := "order.go:34", after := #[{ on := 19, ground := Go.Ground.data }, { on := 22, ground := Go.Ground.data }], guard := none }) (v := ?va23) rfl (by kernel_rfl) (by kernel_rfl) (by kernel_rfl) (fun _ _ _ h => h) (Or.inl ⟨by rfl, ?ya23⟩) HS ?ra23
  case ya23 => (intro wx hSw; obtain ⟨q0, q1, q2, q3, q4, q5, q6, q7, q8⟩ := box_cells hSw.box; simp only at q0 q1 q2 q3 q4 q5 q6 q7 q8; go_simp; first | done | with_reducible rfl | (intro hh; omega) | skip)
  try simp only [Act.put, List.setIfInBounds_toArray, List.set_cons_zero, List.set_cons_succ]
  refine wpAnyH_ready (rs := [26]) (by kernel_rfl) (by simp) ?_
  refine AllReadyH.cons (o := { dst := some 29, op := Go.Op.call { callee := Go.Callee.value (Go.Operand.func 20), args := #[Go.Operand.tmp 28], argTypes := #[22] }, type := 9, pos := "order.go:36", after := #[{ on := 25, ground := Go.Ground.data }, { on := 22, ground := Go.Ground.chain }], guard := none }) rfl (fun K hK => ?_) AllReadyH.nil
  go_simp
  refine (c7.out _).mono ?_; rintro e w26 ⟨rfl, b26⟩
  refine hK.out _ _ (ox_on HS b26) (fun HS => ?_)
  try simp only [Act.put, List.setIfInBounds_toArray, List.set_cons_zero, List.set_cons_succ]
  refine wpAnyH_take (S := (fun wx => Ox w ⟨id, account, side, price, size, left, rank, expiry, state⟩ wx)) (i := 27) (oi := { dst := some 30, op := Go.Op.binOp Go.BinOp.add 9 (Go.Operand.tmp 26) (Go.Operand.tmp 29) 9, type := 9, pos := "order.go:34", after := #[{ on := 23, ground := Go.Ground.data }, { on := 26, ground := Go.Ground.data }], guard := none }) (v := ?va27) rfl (by kernel_rfl) (by kernel_rfl) (by kernel_rfl) (fun _ _ _ h => h) (Or.inl ⟨by rfl, ?ya27⟩) HS ?ra27
  case ya27 => (intro wx hSw; obtain ⟨q0, q1, q2, q3, q4, q5, q6, q7, q8⟩ := box_cells hSw.box; simp only at q0 q1 q2 q3 q4 q5 q6 q7 q8; go_simp; first | done | with_reducible rfl | (intro hh; omega) | skip)
  try simp only [Act.put, List.setIfInBounds_toArray, List.set_cons_zero, List.set_cons_succ]
  refine wpAnyH_ready (rs := [31]) (by kernel_rfl) (by simp) ?_
  refine AllReadyH.cons (o := { dst := some 34, op := Go.Op.call { callee := Go.Callee.value (Go.Operand.func 20), args := #[Go.Operand.tmp 33], argTypes := #[22] }, type := 9, pos := "order.go:36", after := #[{ on := 30, ground := Go.Ground.data }, { on := 26, ground := Go.Ground.chain }], guard := none }) rfl (fun K hK => ?_) AllReadyH.nil
  go_simp
  refine (c8.out _).mono ?_; rintro e w31 ⟨rfl, b31⟩
  refine hK.out _ _ (ox_on HS b31) (fun HS => ?_)
  try simp only [Act.put, List.setIfInBounds_toArray, List.set_cons_zero, List.set_cons_succ]
  refine wpAnyH_take (S := (fun wx => Ox w ⟨id, account, side, price, size, left, rank, expiry, state⟩ wx)) (i := 32) (oi := { dst := some 35, op := Go.Op.binOp Go.BinOp.add 9 (Go.Operand.tmp 30) (Go.Operand.tmp 34) 9, type := 9, pos := "order.go:34", after := #[{ on := 27, ground := Go.Ground.data }, { on := 31, ground := Go.Ground.data }], guard := none }) (v := ?va32) rfl (by kernel_rfl) (by kernel_rfl) (by kernel_rfl) (fun _ _ _ h => h) (Or.inl ⟨by rfl, ?ya32⟩) HS ?ra32
  case ya32 => (intro wx hSw; obtain ⟨q0, q1, q2, q3, q4, q5, q6, q7, q8⟩ := box_cells hSw.box; simp only at q0 q1 q2 q3 q4 q5 q6 q7 q8; go_simp; first | done | with_reducible rfl | (intro hh; omega) | skip)
  try simp only [Act.put, List.setIfInBounds_toArray, List.set_cons_zero, List.set_cons_succ]
  refine wpAnyH_take (S := (fun wx => Ox w ⟨id, account, side, price, size, left, rank, expiry, state⟩ wx)) (i := 33) (oi := { dst := some 2, op := Go.Op.assign (Go.Operand.tmp 35), type := 9, pos := "order.go:34", after := #[{ on := 32, ground := Go.Ground.data }, { on := 31, ground := Go.Ground.chain }, { on := 0, ground := Go.Ground.phase }, { on := 1, ground := Go.Ground.phase }, { on := 2, ground := Go.Ground.phase }, { on := 3, ground := Go.Ground.phase }, { on := 4, ground := Go.Ground.phase }, { on := 5, ground := Go.Ground.phase }, { on := 6, ground := Go.Ground.phase }, { on := 7, ground := Go.Ground.phase }, { on := 8, ground := Go.Ground.phase }, { on := 9, ground := Go.Ground.phase }, { on := 10, ground := Go.Ground.phase }, { on := 11, ground := Go.Ground.phase }, { on := 12, ground := Go.Ground.phase }, { on := 13, ground := Go.Ground.phase }, { on := 14, ground := Go.Ground.phase }, { on := 15, ground := Go.Ground.phase }, { on := 16, ground := Go.Ground.phase }, { on := 17, ground := Go.Ground.phase }, { on := 18, ground := Go.Ground.phase }, { on := 19, ground := Go.Ground.phase }, { on := 20, ground := Go.Ground.phase }, { on := 21, ground := Go.Ground.phase }, { on := 22, ground := Go.Ground.phase }, { on := 23, ground := Go.Ground.phase }, { on := 24, ground := Go.Ground.phase }, { on := 25, ground := Go.Ground.phase }, { on := 26, ground := Go.Ground.phase }, { on := 27, ground := Go.Ground.phase }, { on := 28, ground := Go.Ground.phase }, { on := 29, ground := Go.Ground.phase }, { on := 30, ground := Go.Ground.phase }, { on := 31, ground := Go.Ground.phase }, { on := 32, ground := Go.Ground.phase }], guard := none }) (v := ?va33) rfl (by kernel_rfl) (by kernel_rfl) (by kernel_rfl) (fun _ _ _ h => h) (Or.inl ⟨by rfl, ?ya33⟩) HS ?ra33
  case ya33 => (intro wx hSw; obtain ⟨q0, q1, q2, q3, q4, q5, q6, q7, q8⟩ := box_cells hSw.box; simp only at q0 q1 q2 q3 q4 q5 q6 q7 q8; go_simp; first | done | with_reducible rfl | (intro hh; omega) | skip)
  try simp only [Act.put, List.setIfInBounds_toArray, List.set_cons_zero, List.set_cons_succ]
  refine wpAnyH_done (by kernel_rfl) ?_ _
  refine NoPanic.normal ?_
  go_wp2
  go_ret
  exact ⟨rfl, HS.below⟩
end Go.Proofs.Ytckkabiafikjfaa.Odx
