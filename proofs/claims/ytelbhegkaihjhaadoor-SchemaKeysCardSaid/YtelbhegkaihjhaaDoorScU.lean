/-
  The law of a market's keys, walked. Conditions: as each theorem states.
-/
import Derived.Test.YtelbhegkaihjhaaDoorScT
import Derived.Deep.RegionHeldLaw
namespace Go.Proofs.YtelbhegkaihjhaaDoor
open Go.RowKit
open Vi

set_option maxRecDepth 100000 in
set_option maxHeartbeats 8000000 in
theorem keys_light {w : World} (s : ByteArray) (a i : Nat) (k p : Int) (r t : Nat) (n : ByteArray) (T : List UInt8) (hn : n.size ≤ 300) (hT : T.length ≤ 300) (m : Int) (hm : Cell0 m w)
    (NK BK AK OK EK : List UInt8) (NE ye : Int) (y1 y8 : ByteArray) (y2 y3 y6 y7 : Nat) (y4 y5 : Int)
    (NU : Hid (∀ W : World, Cell0 m W → Calls Tryd.prog 9 #[.string n] W fun e w' => e = .returned (.tuple #[.string (bs NK), .int .i64 NE]) ∧ Below W.heap.size W w'))
    (KN : Hid (∀ W : World, Cell0 m W → Calls Tryd.prog 8 #[.agg #[.string ⟨#[110]⟩, .int .u64 a, .int .u64 i, .int .i64 k, .int .i64 p, .int .u64 r, .int .u64 t, .string n]] W fun e w' => e = .returned (.tuple #[.string (bs NK), .int .i64 NE]) ∧ Below W.heap.size W w'))
    (PS : Hid (∀ W : World, Cell0 m W → Calls Tryd.prog 10 #[.string (bs T)] W fun e w' => e = .returned (.tuple #[.agg #[.string y1, .int .u64 y2, .int .u64 y3, .int .i64 y4, .int .i64 y5, .int .u64 y6, .int .u64 y7, .string y8], .int .i64 ye]) ∧ Below W.heap.size W w'))
    (PD : Hid (∀ W : World, Cell0 m W → Calls Tryd.prog 11 #[.string (bs T)] W fun e w' => e = .returned (.tuple #[.agg #[.string y1, .int .u64 y2, .int .u64 y3, .int .i64 y4, .int .i64 y5, .int .u64 y6, .int .u64 y7, .string y8], .int .i64 ye]) ∧ Below W.heap.size W w'))
    (PL : Hid (∀ W : World, Cell0 m W → Calls Tryd.prog 12 #[.agg #[.int .u64 i, .int .u64 0, .int .i64 k, .int .i64 p, .int .i64 0, .int .i64 0, .int .u64 r, .int .u64 0, .int .i64 0]] W fun e w' => e = .returned (.string (bs BK)) ∧ Below W.heap.size W w'))
    (BA : Hid (∀ W : World, Cell0 m W → Calls Tryd.prog 13 #[.int .u64 a, .int .i64 k] W fun e w' => e = .returned (.string (bs AK)) ∧ Below W.heap.size W w'))
    (OR : Hid (∀ W : World, Cell0 m W → Calls Tryd.prog 14 #[.int .u64 i] W fun e w' => e = .returned (.string (bs OK)) ∧ Below W.heap.size W w'))
    (EX : Hid (∀ W : World, Cell0 m W → Calls Tryd.prog 15 #[.int .u64 t, .int .u64 i] W fun e w' => e = .returned (.string (bs EK)) ∧ Below W.heap.size W w'))
    (WA : Hid (∀ W : World, Cell0 m W → Calls Tryd.prog 7 #[.agg #[.string ⟨#[97]⟩, .int .u64 a, .int .u64 i, .int .i64 k, .int .i64 p, .int .u64 r, .int .u64 t, .string n]] W fun e w' => e = .returned (.string (bs AK)) ∧ Below W.heap.size W w'))
    (WO : Hid (∀ W : World, Cell0 m W → Calls Tryd.prog 7 #[.agg #[.string ⟨#[111]⟩, .int .u64 a, .int .u64 i, .int .i64 k, .int .i64 p, .int .u64 r, .int .u64 t, .string n]] W fun e w' => e = .returned (.string (bs OK)) ∧ Below W.heap.size W w'))
    (WB : Hid (∀ W : World, Cell0 m W → Calls Tryd.prog 7 #[.agg #[.string ⟨#[98]⟩, .int .u64 a, .int .u64 i, .int .i64 k, .int .i64 p, .int .u64 r, .int .u64 t, .string n]] W fun e w' => e = .returned (.string (bs BK)) ∧ Below W.heap.size W w'))
    (WE : Hid (∀ W : World, Cell0 m W → Calls Tryd.prog 7 #[.agg #[.string ⟨#[101]⟩, .int .u64 a, .int .u64 i, .int .i64 k, .int .i64 p, .int .u64 r, .int .u64 t, .string n]] W fun e w' => e = .returned (.string (bs EK)) ∧ Below W.heap.size W w')) :
    Calls Tryd.prog 3 #[.agg #[.string s, .int .u64 a, .int .u64 i, .int .i64 k, .int .i64 p, .int .u64 r, .int .u64 t, .string n], .string (bs T)] w fun e w' => e = .returned (.bool true) ∧ Below w.heap.size w w' := by
  have AW := Lib.hid fun (W : World) (h : Cell0 m W) => awake_any W m h
  have M0 := Lib.hid (cell0_alloc hm (.cells #[.string s, .int .u64 a, .int .u64 i, .int .i64 k, .int .i64 p, .int .u64 r, .int .u64 t, .string n] 24))
  have HM := Lib.hid hm
  have B0 := Lib.hid (heap_alloc_new w (.cells #[.string s, .int .u64 a, .int .u64 i, .int .i64 k, .int .i64 p, .int .u64 r, .int .u64 t, .string n] 24))
  have hbl := bs_list
  have hbz := bs_size
  have heq := eq_thing y1 y8 y2 y3 y6 y7 y4 y5
  clear hm
  go_enter Tryd.func3, Tryd.ntmps3
  go_wp2_with (go_at_call 6; (with_reducible refine (AW.out _ M0.out).mono ?_); rintro e w1 ⟨rfl, b1⟩; have B1 := Lib.hid ((b1.block w.heap.size (by simp)).trans B0.out); have hw1 := b1.size; have L1 := Lib.hid (alloc_below b1); obtain ⟨a0, a1, a2, a3, a4, a5, a6, a7⟩ := eight_cells B1.out)
  have hlt1 : w.heap.size + 1 ≤ w1.heap.size := by simpa using hw1
  obtain ⟨k6, hk6⟩ : ∃ k6, k6 = w1.heap.size := ⟨_, rfl⟩
  have X6 : QW w #[.string s, .int .u64 a, .int .u64 i, .int .i64 k, .int .i64 p, .int .u64 r, .int .u64 t, .string n] k6 (w1.alloc (.cells #[.string s, .int .u64 a, .int .u64 i, .int .i64 k, .int .i64 p, .int .u64 r, .int .u64 t, .string n] 26)) := ⟨L1.out.alloc L1.out.size _, heap_old B1.out _, by rw [hk6]; exact heap_alloc_new w1 _⟩
  rw [← hk6]
  have hk6lt : k6 < (w1.alloc (.cells #[.string s, .int .u64 a, .int .u64 i, .int .i64 k, .int .i64 p, .int .u64 r, .int .u64 t, .string n] 26)).heap.size := by rw [hk6]; simp
  replace hk6 := Lib.hid hk6
  refine wp_region_noPanic ?_
  refine wp_region_held_drew (S := (fun wx => QW w #[.string s, .int .u64 a, .int .u64 i, .int .i64 k, .int .i64 p, .int .u64 r, .int .u64 t, .string n] k6 wx)) (by kernel_rfl) (qw_drew X6) (fun HS => ?_)
  refine wpAnyH_take (i := 0) (oi := { dst := some 33, op := Go.Op.load 26 (Go.Operand.tmp 6), type := 26, pos := "law.go:37", after := #[], guard := none }) (v := ?vl0) rfl (by kernel_rfl) (by kernel_rfl) (by kernel_rfl) (fun _ _ _ h => h) (Or.inl ⟨by rfl, ?yl0⟩) HS ?rl0
  case yl0 => (intro wx hSw; obtain ⟨c0, c1, c2, c3, c4, c5, c6, c7⟩ := eight_cells hSw.b6; go_simp; first | done | with_reducible rfl | (intro hh; omega) | skip)
  try simp only [Act.put, List.setIfInBounds_toArray, List.set_cons_zero, List.set_cons_succ]
  refine wpAnyH_take (i := 1) (oi := { dst := some 34, op := Go.Op.load 26 (Go.Operand.tmp 6), type := 26, pos := "law.go:37", after := #[{ on := 10, ground := Go.Ground.gcOnly Go.Departure.lateStores }], guard := none }) (v := ?vl1) rfl (by kernel_rfl) (by kernel_rfl) (by kernel_rfl) (fun _ _ _ h => h) (Or.inl ⟨by rfl, ?yl1⟩) HS ?rl1
  case yl1 => (intro wx hSw; obtain ⟨c0, c1, c2, c3, c4, c5, c6, c7⟩ := eight_cells hSw.b6; go_simp; first | done | with_reducible rfl | (intro hh; omega) | skip)
  try simp only [Act.put, List.setIfInBounds_toArray, List.set_cons_zero, List.set_cons_succ]
  refine wpAnyH_take (i := 2) (oi := { dst := some 35, op := Go.Op.load 26 (Go.Operand.tmp 6), type := 26, pos := "law.go:37", after := #[{ on := 11, ground := Go.Ground.gcOnly Go.Departure.lateStores }], guard := none }) (v := ?vl2) rfl (by kernel_rfl) (by kernel_rfl) (by kernel_rfl) (fun _ _ _ h => h) (Or.inl ⟨by rfl, ?yl2⟩) HS ?rl2
  case yl2 => (intro wx hSw; obtain ⟨c0, c1, c2, c3, c4, c5, c6, c7⟩ := eight_cells hSw.b6; go_simp; first | done | with_reducible rfl | (intro hh; omega) | skip)
  try simp only [Act.put, List.setIfInBounds_toArray, List.set_cons_zero, List.set_cons_succ]
  refine wpAnyH_take (i := 3) (oi := { dst := some 36, op := Go.Op.load 26 (Go.Operand.tmp 6), type := 26, pos := "law.go:37", after := #[{ on := 12, ground := Go.Ground.gcOnly Go.Departure.lateStores }], guard := none }) (v := ?vl3) rfl (by kernel_rfl) (by kernel_rfl) (by kernel_rfl) (fun _ _ _ h => h) (Or.inl ⟨by rfl, ?yl3⟩) HS ?rl3
  case yl3 => (intro wx hSw; obtain ⟨c0, c1, c2, c3, c4, c5, c6, c7⟩ := eight_cells hSw.b6; go_simp; first | done | with_reducible rfl | (intro hh; omega) | skip)
  try simp only [Act.put, List.setIfInBounds_toArray, List.set_cons_zero, List.set_cons_succ]
  refine wpAnyH_take (i := 4) (oi := { dst := some 37, op := Go.Op.load 26 (Go.Operand.tmp 6), type := 26, pos := "law.go:37", after := #[{ on := 13, ground := Go.Ground.gcOnly Go.Departure.lateStores }], guard := none }) (v := ?vl4) rfl (by kernel_rfl) (by kernel_rfl) (by kernel_rfl) (fun _ _ _ h => h) (Or.inl ⟨by rfl, ?yl4⟩) HS ?rl4
  case yl4 => (intro wx hSw; obtain ⟨c0, c1, c2, c3, c4, c5, c6, c7⟩ := eight_cells hSw.b6; go_simp; first | done | with_reducible rfl | (intro hh; omega) | skip)
  try simp only [Act.put, List.setIfInBounds_toArray, List.set_cons_zero, List.set_cons_succ]
  refine allocs_five (fuel := 5) _ _ (.cells #[.string ⟨#[]⟩, .int .u64 0, .int .u64 0, .int .i64 0, .int .i64 0, .int .u64 0, .int .u64 0, .string ⟨#[]⟩] 26 (0, 0)) 5 2 15 ?st (by decide +kernel) (by decide +kernel) ?sS (fun b0 b1 b2 b3 b4 h0 h1 h2 h3 h4 hd => ?fin)
  case sS => exact fun m => qw_lays HS _ m
  case st =>
    intro i h1 h2
    obtain rfl | rfl | rfl | rfl | rfl : i = 5 ∨ i = 6 ∨ i = 7 ∨ i = 8 ∨ i = 9 := by omega
    all_goals (refine ⟨_, rfl, rfl, fun a w' K hK => ?_⟩; go_simp; exact hK)
  have X7 := kb_start HS ⟨?hk1, ?hk2⟩ #[.string ⟨#[]⟩, .int .u64 0, .int .u64 0, .int .i64 0, .int .i64 0, .int .u64 0, .int .u64 0, .string ⟨#[]⟩] h0 h1 h2 h3 h4 hd
  case hk2 => exact hk6lt
  case hk1 => simp; omega
  generalize lays _ _ 5 = W7 at X7 ⊢
  simp only [Nat.reduceAdd, Act.put, List.setIfInBounds_toArray, List.set_cons_zero, List.set_cons_succ]
  refine wpAnyH_ready (rs := [10]) (by kernel_rfl) (by simp) ?_
  refine AllReadyH.cons (o := { dst := none, op := Go.Op.store 26 (Go.Operand.tmp 7) (Go.Operand.tmp 33), type := 0, pos := "law.go:37", after := #[{ on := 5, ground := Go.Ground.data }, { on := 0, ground := Go.Ground.data }, { on := 0, ground := Go.Ground.phase }, { on := 1, ground := Go.Ground.textOnly Go.Departure.lateStores }, { on := 2, ground := Go.Ground.textOnly Go.Departure.lateStores }, { on := 3, ground := Go.Ground.textOnly Go.Departure.lateStores }, { on := 4, ground := Go.Ground.textOnly Go.Departure.lateStores }, { on := 5, ground := Go.Ground.phase }, { on := 6, ground := Go.Ground.phase }, { on := 7, ground := Go.Ground.phase }, { on := 8, ground := Go.Ground.phase }, { on := 9, ground := Go.Ground.phase }], guard := none }) rfl (fun K hK => ?_) AllReadyH.nil
  obtain ⟨c0, c1, c2, c3, c4, c5, c6, c7⟩ := eight_cells X7.f0
  have f0 := free_in X7.f0 0; have f1 := free_in X7.f0 1; have f2 := free_in X7.f0 2; have f3 := free_in X7.f0 3; have f4 := free_in X7.f0 4; have f5 := free_in X7.f0 5; have f6 := free_in X7.f0 6; have f7 := free_in X7.f0 7
  go_simp
  clear c0 c1 c2 c3 c4 c5 c6 c7 f0 f1 f2 f3 f4 f5 f6 f7
  have X8 := (kb_set0 (kb_set0 (kb_set0 (kb_set0 (kb_set0 (kb_set0 (kb_set0 (kb_set0 X7 0 (.string s)) 1 (.int .u64 a)) 2 (.int .u64 i)) 3 (.int .i64 k)) 4 (.int .i64 p)) 5 (.int .u64 r)) 6 (.int .u64 t)) 7 (.string n))
  simp only [List.setIfInBounds_toArray, List.set_cons_zero, List.set_cons_succ] at X8
  clear X7
  refine hK.out _ _ X8.q (fun HS => ?_)
  try simp only [Act.put, List.setIfInBounds_toArray, List.set_cons_zero, List.set_cons_succ]
  generalize World.setCell _ _ _ = W8 at X8 HS ⊢
  refine wpAnyH_ready (rs := [11]) (by kernel_rfl) (by simp) ?_
  refine AllReadyH.cons (o := { dst := none, op := Go.Op.store 26 (Go.Operand.tmp 8) (Go.Operand.tmp 34), type := 0, pos := "law.go:37", after := #[{ on := 6, ground := Go.Ground.data }, { on := 1, ground := Go.Ground.data }, { on := 10, ground := Go.Ground.chain }, { on := 0, ground := Go.Ground.phase }, { on := 1, ground := Go.Ground.phase }, { on := 2, ground := Go.Ground.textOnly Go.Departure.lateStores }, { on := 3, ground := Go.Ground.textOnly Go.Departure.lateStores }, { on := 4, ground := Go.Ground.textOnly Go.Departure.lateStores }, { on := 5, ground := Go.Ground.phase }, { on := 6, ground := Go.Ground.phase }, { on := 7, ground := Go.Ground.phase }, { on := 8, ground := Go.Ground.phase }, { on := 9, ground := Go.Ground.phase }, { on := 10, ground := Go.Ground.phase }], guard := none }) rfl (fun K hK => ?_) AllReadyH.nil
  obtain ⟨c0, c1, c2, c3, c4, c5, c6, c7⟩ := eight_cells X8.f1
  have f0 := free_in X8.f1 0; have f1 := free_in X8.f1 1; have f2 := free_in X8.f1 2; have f3 := free_in X8.f1 3; have f4 := free_in X8.f1 4; have f5 := free_in X8.f1 5; have f6 := free_in X8.f1 6; have f7 := free_in X8.f1 7
  go_simp
  clear c0 c1 c2 c3 c4 c5 c6 c7 f0 f1 f2 f3 f4 f5 f6 f7
  have X9 := (kb_set1 (kb_set1 (kb_set1 (kb_set1 (kb_set1 (kb_set1 (kb_set1 (kb_set1 X8 0 (.string s)) 1 (.int .u64 a)) 2 (.int .u64 i)) 3 (.int .i64 k)) 4 (.int .i64 p)) 5 (.int .u64 r)) 6 (.int .u64 t)) 7 (.string n))
  simp only [List.setIfInBounds_toArray, List.set_cons_zero, List.set_cons_succ] at X9
  clear X8
  refine hK.out _ _ X9.q (fun HS => ?_)
  try simp only [Act.put, List.setIfInBounds_toArray, List.set_cons_zero, List.set_cons_succ]
  generalize World.setCell _ _ _ = W9 at X9 HS ⊢
  refine wpAnyH_ready (rs := [12]) (by kernel_rfl) (by simp) ?_
  refine AllReadyH.cons (o := { dst := none, op := Go.Op.store 26 (Go.Operand.tmp 9) (Go.Operand.tmp 35), type := 0, pos := "law.go:37", after := #[{ on := 7, ground := Go.Ground.data }, { on := 2, ground := Go.Ground.data }, { on := 11, ground := Go.Ground.chain }, { on := 0, ground := Go.Ground.phase }, { on := 1, ground := Go.Ground.phase }, { on := 2, ground := Go.Ground.phase }, { on := 3, ground := Go.Ground.textOnly Go.Departure.lateStores }, { on := 4, ground := Go.Ground.textOnly Go.Departure.lateStores }, { on := 5, ground := Go.Ground.phase }, { on := 6, ground := Go.Ground.phase }, { on := 7, ground := Go.Ground.phase }, { on := 8, ground := Go.Ground.phase }, { on := 9, ground := Go.Ground.phase }, { on := 10, ground := Go.Ground.phase }, { on := 11, ground := Go.Ground.phase }], guard := none }) rfl (fun K hK => ?_) AllReadyH.nil
  obtain ⟨c0, c1, c2, c3, c4, c5, c6, c7⟩ := eight_cells X9.f2
  have f0 := free_in X9.f2 0; have f1 := free_in X9.f2 1; have f2 := free_in X9.f2 2; have f3 := free_in X9.f2 3; have f4 := free_in X9.f2 4; have f5 := free_in X9.f2 5; have f6 := free_in X9.f2 6; have f7 := free_in X9.f2 7
  go_simp
  clear c0 c1 c2 c3 c4 c5 c6 c7 f0 f1 f2 f3 f4 f5 f6 f7
  have X10 := (kb_set2 (kb_set2 (kb_set2 (kb_set2 (kb_set2 (kb_set2 (kb_set2 (kb_set2 X9 0 (.string s)) 1 (.int .u64 a)) 2 (.int .u64 i)) 3 (.int .i64 k)) 4 (.int .i64 p)) 5 (.int .u64 r)) 6 (.int .u64 t)) 7 (.string n))
  simp only [List.setIfInBounds_toArray, List.set_cons_zero, List.set_cons_succ] at X10
  clear X9
  refine hK.out _ _ X10.q (fun HS => ?_)
  try simp only [Act.put, List.setIfInBounds_toArray, List.set_cons_zero, List.set_cons_succ]
  generalize World.setCell _ _ _ = W10 at X10 HS ⊢
  refine wpAnyH_ready (rs := [13]) (by kernel_rfl) (by simp) ?_
  refine AllReadyH.cons (o := { dst := none, op := Go.Op.store 26 (Go.Operand.tmp 10) (Go.Operand.tmp 36), type := 0, pos := "law.go:37", after := #[{ on := 8, ground := Go.Ground.data }, { on := 3, ground := Go.Ground.data }, { on := 12, ground := Go.Ground.chain }, { on := 0, ground := Go.Ground.phase }, { on := 1, ground := Go.Ground.phase }, { on := 2, ground := Go.Ground.phase }, { on := 3, ground := Go.Ground.phase }, { on := 4, ground := Go.Ground.textOnly Go.Departure.lateStores }, { on := 5, ground := Go.Ground.phase }, { on := 6, ground := Go.Ground.phase }, { on := 7, ground := Go.Ground.phase }, { on := 8, ground := Go.Ground.phase }, { on := 9, ground := Go.Ground.phase }, { on := 10, ground := Go.Ground.phase }, { on := 11, ground := Go.Ground.phase }, { on := 12, ground := Go.Ground.phase }], guard := none }) rfl (fun K hK => ?_) AllReadyH.nil
  obtain ⟨c0, c1, c2, c3, c4, c5, c6, c7⟩ := eight_cells X10.f3
  have f0 := free_in X10.f3 0; have f1 := free_in X10.f3 1; have f2 := free_in X10.f3 2; have f3 := free_in X10.f3 3; have f4 := free_in X10.f3 4; have f5 := free_in X10.f3 5; have f6 := free_in X10.f3 6; have f7 := free_in X10.f3 7
  go_simp
  clear c0 c1 c2 c3 c4 c5 c6 c7 f0 f1 f2 f3 f4 f5 f6 f7
  have X11 := (kb_set3 (kb_set3 (kb_set3 (kb_set3 (kb_set3 (kb_set3 (kb_set3 (kb_set3 X10 0 (.string s)) 1 (.int .u64 a)) 2 (.int .u64 i)) 3 (.int .i64 k)) 4 (.int .i64 p)) 5 (.int .u64 r)) 6 (.int .u64 t)) 7 (.string n))
  simp only [List.setIfInBounds_toArray, List.set_cons_zero, List.set_cons_succ] at X11
  clear X10
  refine hK.out _ _ X11.q (fun HS => ?_)
  try simp only [Act.put, List.setIfInBounds_toArray, List.set_cons_zero, List.set_cons_succ]
  generalize World.setCell _ _ _ = W11 at X11 HS ⊢
  refine wpAnyH_ready (rs := [14]) (by kernel_rfl) (by simp) ?_
  refine AllReadyH.cons (o := { dst := none, op := Go.Op.store 26 (Go.Operand.tmp 11) (Go.Operand.tmp 37), type := 0, pos := "law.go:37", after := #[{ on := 9, ground := Go.Ground.data }, { on := 4, ground := Go.Ground.data }, { on := 13, ground := Go.Ground.chain }, { on := 0, ground := Go.Ground.phase }, { on := 1, ground := Go.Ground.phase }, { on := 2, ground := Go.Ground.phase }, { on := 3, ground := Go.Ground.phase }, { on := 4, ground := Go.Ground.phase }, { on := 5, ground := Go.Ground.phase }, { on := 6, ground := Go.Ground.phase }, { on := 7, ground := Go.Ground.phase }, { on := 8, ground := Go.Ground.phase }, { on := 9, ground := Go.Ground.phase }, { on := 10, ground := Go.Ground.phase }, { on := 11, ground := Go.Ground.phase }, { on := 12, ground := Go.Ground.phase }, { on := 13, ground := Go.Ground.phase }], guard := none }) rfl (fun K hK => ?_) AllReadyH.nil
  obtain ⟨c0, c1, c2, c3, c4, c5, c6, c7⟩ := eight_cells X11.f4
  have f0 := free_in X11.f4 0; have f1 := free_in X11.f4 1; have f2 := free_in X11.f4 2; have f3 := free_in X11.f4 3; have f4 := free_in X11.f4 4; have f5 := free_in X11.f4 5; have f6 := free_in X11.f4 6; have f7 := free_in X11.f4 7
  go_simp
  clear c0 c1 c2 c3 c4 c5 c6 c7 f0 f1 f2 f3 f4 f5 f6 f7
  have X12 := (kb_set4 (kb_set4 (kb_set4 (kb_set4 (kb_set4 (kb_set4 (kb_set4 (kb_set4 X11 0 (.string s)) 1 (.int .u64 a)) 2 (.int .u64 i)) 3 (.int .i64 k)) 4 (.int .i64 p)) 5 (.int .u64 r)) 6 (.int .u64 t)) 7 (.string n))
  simp only [List.setIfInBounds_toArray, List.set_cons_zero, List.set_cons_succ] at X12
  clear X11
  refine hK.out _ _ X12.q (fun HS => ?_)
  try simp only [Act.put, List.setIfInBounds_toArray, List.set_cons_zero, List.set_cons_succ]
  generalize World.setCell _ _ _ = W12 at X12 HS ⊢
  refine wpAnyH_done (by kernel_rfl) ?_ _
  refine NoPanic.normal ?_
  clear HS
  have q0 := free_in X12.f0 0; have q1 := free_in X12.f1 0; have q2 := free_in X12.f2 0; have q3 := free_in X12.f3 0; have q4 := free_in X12.f4 0
  obtain ⟨g0_0, g0_1, g0_2, g0_3, g0_4, g0_5, g0_6, g0_7⟩ := eight_cells X12.f0; clear g0_1 g0_2 g0_3 g0_4 g0_5 g0_6 g0_7; obtain ⟨g1_0, g1_1, g1_2, g1_3, g1_4, g1_5, g1_6, g1_7⟩ := eight_cells X12.f1; clear g1_1 g1_2 g1_3 g1_4 g1_5 g1_6 g1_7; obtain ⟨g2_0, g2_1, g2_2, g2_3, g2_4, g2_5, g2_6, g2_7⟩ := eight_cells X12.f2; clear g2_1 g2_2 g2_3 g2_4 g2_5 g2_6 g2_7; obtain ⟨g3_0, g3_1, g3_2, g3_3, g3_4, g3_5, g3_6, g3_7⟩ := eight_cells X12.f3; clear g3_1 g3_2 g3_3 g3_4 g3_5 g3_6 g3_7; obtain ⟨g4_0, g4_1, g4_2, g4_3, g4_4, g4_5, g4_6, g4_7⟩ := eight_cells X12.f4; clear g4_1 g4_2 g4_3 g4_4 g4_5 g4_6 g4_7
  have AP := X12.ap
  obtain ⟨n01, n02, n03, n04, n12, n13, n14, n23, n24, n34⟩ := AP.ap
  replace AP := Lib.hid AP
  obtain ⟨W13, hW⟩ : ∃ W, (((((W12.setCell ⟨b0, 0, none⟩ (.string ⟨#[97]⟩)).setCell ⟨b1, 0, none⟩ (.string ⟨#[111]⟩)).setCell ⟨b2, 0, none⟩ (.string ⟨#[98]⟩)).setCell ⟨b3, 0, none⟩ (.string ⟨#[101]⟩)).setCell ⟨b4, 0, none⟩ (.string ⟨#[110]⟩)) = W := ⟨_, rfl⟩
  have X13 := (kb_set4 (kb_set3 (kb_set2 (kb_set1 (kb_set0 X12 0 (.string ⟨#[97]⟩)) 0 (.string ⟨#[111]⟩)) 0 (.string ⟨#[98]⟩)) 0 (.string ⟨#[101]⟩)) 0 (.string ⟨#[110]⟩))
  simp only [List.setIfInBounds_toArray, List.set_cons_zero] at X13
  rw [hW] at X13
  replace hW := Lib.hid hW
  replace X12 := Lib.hid X12
  have M13 := Lib.hid (cell0_on HM.out X13.q.below)
  obtain ⟨c0, c1, c2, c3, c4, c5, c6, c7⟩ := eight_cells X13.q.bt
  obtain ⟨d0, d1, d2, d3, d4, d5, d6, d7⟩ := eight_cells X13.f4
  replace X13 := Lib.hid X13
  go_wp2_with (first | (rw [hW.out]; clear q0 q1 q2 q3 q4 g0_0 g1_0 g2_0 g3_0 g4_0) | (go_at_call 9; (with_reducible refine (NU.out _ M13.out).mono ?_); rintro e w14 ⟨rfl, b14⟩; clear c0 c1 c2 c3 c4 c5 c6 c7 d0 d1 d2 d3 d4 d5 d6 d7; have X14 := kb_on X13.out b14; have M14 := Lib.hid (cell0_on M13.out b14); obtain ⟨d0, d1, d2, d3, d4, d5, d6, d7⟩ := eight_cells X14.f4; replace X14 := Lib.hid X14; clear b14) | (go_at_call 8; (with_reducible refine (KN.out _ M14.out).mono ?_); rintro e w15 ⟨rfl, b15⟩; clear d0 d1 d2 d3 d4 d5 d6 d7; have X15 := Lib.hid (kb_on X14.out b15); have M15 := Lib.hid (cell0_on M14.out b15); clear b15) | (go_at_call 10; (with_reducible refine (PS.out _ M15.out).mono ?_); rintro e w16 ⟨rfl, b16⟩; have X16 := Lib.hid (kb_alloc (kb_on X15.out b16) (.cells #[.string y1, .int .u64 y2, .int .u64 y3, .int .i64 y4, .int .i64 y5, .int .u64 y6, .int .u64 y7, .string y8] 24 (0, 0))); have M16 := Lib.hid (cell0_alloc (cell0_on M15.out b16) (.cells #[.string y1, .int .u64 y2, .int .u64 y3, .int .i64 y4, .int .i64 y5, .int .u64 y6, .int .u64 y7, .string y8] 24 (0, 0))); have Y16 := Lib.hid (heap_alloc_new w16 (.cells #[.string y1, .int .u64 y2, .int .u64 y3, .int .i64 y4, .int .i64 y5, .int .u64 y6, .int .u64 y7, .string y8] 24 (0, 0))); clear b16) | (go_at_call 11; (with_reducible refine (PD.out _ M16.out).mono ?_); rintro e w17 ⟨rfl, b17⟩; have X17 := Lib.hid (kb_alloc (kb_on X16.out b17) (.cells #[.string y1, .int .u64 y2, .int .u64 y3, .int .i64 y4, .int .i64 y5, .int .u64 y6, .int .u64 y7, .string y8] 26 (0, 0))); have M17 := Lib.hid (cell0_alloc (cell0_on M16.out b17) (.cells #[.string y1, .int .u64 y2, .int .u64 y3, .int .i64 y4, .int .i64 y5, .int .u64 y6, .int .u64 y7, .string y8] 26 (0, 0))); have Y17 := Lib.hid (heap_old (hp_on Y16.out b17) (.cells #[.string y1, .int .u64 y2, .int .u64 y3, .int .i64 y4, .int .i64 y5, .int .u64 y6, .int .u64 y7, .string y8] 26 (0, 0))); have V17 := Lib.hid (heap_alloc_new w17 (.cells #[.string y1, .int .u64 y2, .int .u64 y3, .int .i64 y4, .int .i64 y5, .int .u64 y6, .int .u64 y7, .string y8] 26 (0, 0))); obtain ⟨c0, c1, c2, c3, c4, c5, c6, c7⟩ := eight_cells X17.out.q.bt; clear b17) | (go_at_call 12; (with_reducible refine (PL.out _ M17.out).mono ?_); rintro e w18 ⟨rfl, b18⟩; clear c0 c1 c2 c3 c4 c5 c6 c7; have X18 : KX w #[.string s, .int .u64 a, .int .u64 i, .int .i64 k, .int .i64 p, .int .u64 r, .int .u64 t, .string n] k6 b0 b1 b2 b3 b4 #[.string ⟨#[97]⟩, .int .u64 a, .int .u64 i, .int .i64 k, .int .i64 p, .int .u64 r, .int .u64 t, .string n] #[.string ⟨#[111]⟩, .int .u64 a, .int .u64 i, .int .i64 k, .int .i64 p, .int .u64 r, .int .u64 t, .string n] #[.string ⟨#[98]⟩, .int .u64 a, .int .u64 i, .int .i64 k, .int .i64 p, .int .u64 r, .int .u64 t, .string n] #[.string ⟨#[101]⟩, .int .u64 a, .int .u64 i, .int .i64 k, .int .i64 p, .int .u64 r, .int .u64 t, .string n] #[.string ⟨#[110]⟩, .int .u64 a, .int .u64 i, .int .i64 k, .int .i64 p, .int .u64 r, .int .u64 t, .string n] w16.heap.size w17.heap.size #[.string y1, .int .u64 y2, .int .u64 y3, .int .i64 y4, .int .i64 y5, .int .u64 y6, .int .u64 y7, .string y8] w18 := ⟨kb_on X17.out b18, hp_on Y17.out b18, hp_on V17.out b18⟩; clear b18))
  clear NU KN PS PD PL M13 M14 M15 M16 M17 X13 X14 X15 X16 X17 Y16 Y17 V17 B0 B1 L1 M0 AW AP hW
  refine wp_region_noPanic ?_
  refine wp_region_held_drew (S := (fun wx => KX w #[.string s, .int .u64 a, .int .u64 i, .int .i64 k, .int .i64 p, .int .u64 r, .int .u64 t, .string n] k6 b0 b1 b2 b3 b4 #[.string ⟨#[97]⟩, .int .u64 a, .int .u64 i, .int .i64 k, .int .i64 p, .int .u64 r, .int .u64 t, .string n] #[.string ⟨#[111]⟩, .int .u64 a, .int .u64 i, .int .i64 k, .int .i64 p, .int .u64 r, .int .u64 t, .string n] #[.string ⟨#[98]⟩, .int .u64 a, .int .u64 i, .int .i64 k, .int .i64 p, .int .u64 r, .int .u64 t, .string n] #[.string ⟨#[101]⟩, .int .u64 a, .int .u64 i, .int .i64 k, .int .i64 p, .int .u64 r, .int .u64 t, .string n] #[.string ⟨#[110]⟩, .int .u64 a, .int .u64 i, .int .i64 k, .int .i64 p, .int .u64 r, .int .u64 t, .string n] w16.heap.size w17.heap.size #[.string y1, .int .u64 y2, .int .u64 y3, .int .i64 y4, .int .i64 y5, .int .u64 y6, .int .u64 y7, .string y8] wx)) (by kernel_rfl) (kx_drew X18) (fun HS => ?_)
  refine wpAnyH_take (i := 0) (oi := { dst := some 74, op := Go.Op.fieldAddr 24 (Go.Operand.tmp 2) 1, type := 0, pos := "law.go:44", after := #[], guard := none }) (v := ?vz0) rfl (by kernel_rfl) (by kernel_rfl) (by kernel_rfl) (fun _ _ _ h => h) (Or.inl ⟨by rfl, ?yz0⟩) HS ?rz0
  case yz0 => (intro wx hSw; skip; go_simp; first | done | with_reducible rfl | (intro hh; omega) | skip)
  try simp only [Act.put, List.setIfInBounds_toArray, List.set_cons_zero, List.set_cons_succ]
  refine wpAnyH_take (i := 1) (oi := { dst := some 75, op := Go.Op.load 22 (Go.Operand.tmp 74), type := 22, pos := "law.go:44", after := #[{ on := 0, ground := Go.Ground.data }], guard := none }) (v := ?vz1) rfl (by kernel_rfl) (by kernel_rfl) (by kernel_rfl) (fun _ _ _ h => h) (Or.inl ⟨by rfl, ?yz1⟩) HS ?rz1
  case yz1 => (intro wx hSw; obtain ⟨c0, c1, c2, c3, c4, c5, c6, c7⟩ := eight_cells hSw.kb.q.bt; go_simp; first | done | with_reducible rfl | (intro hh; omega) | skip)
  try simp only [Act.put, List.setIfInBounds_toArray, List.set_cons_zero, List.set_cons_succ]
  refine wpAnyH_take (i := 2) (oi := { dst := some 76, op := Go.Op.fieldAddr 24 (Go.Operand.tmp 2) 3, type := 0, pos := "law.go:44", after := #[], guard := none }) (v := ?vz2) rfl (by kernel_rfl) (by kernel_rfl) (by kernel_rfl) (fun _ _ _ h => h) (Or.inl ⟨by rfl, ?yz2⟩) HS ?rz2
  case yz2 => (intro wx hSw; skip; go_simp; first | done | with_reducible rfl | (intro hh; omega) | skip)
  try simp only [Act.put, List.setIfInBounds_toArray, List.set_cons_zero, List.set_cons_succ]
  refine wpAnyH_take (i := 3) (oi := { dst := some 77, op := Go.Op.load 3 (Go.Operand.tmp 76), type := 3, pos := "law.go:44", after := #[{ on := 2, ground := Go.Ground.data }], guard := none }) (v := ?vz3) rfl (by kernel_rfl) (by kernel_rfl) (by kernel_rfl) (fun _ _ _ h => h) (Or.inl ⟨by rfl, ?yz3⟩) HS ?rz3
  case yz3 => (intro wx hSw; obtain ⟨c0, c1, c2, c3, c4, c5, c6, c7⟩ := eight_cells hSw.kb.q.bt; go_simp; first | done | with_reducible rfl | (intro hh; omega) | skip)
  try simp only [Act.put, List.setIfInBounds_toArray, List.set_cons_zero, List.set_cons_succ]
  refine wpAnyH_take (i := 5) (oi := { dst := some 79, op := Go.Op.move (Go.Operand.tmp 5), type := 29, pos := "law.go:44", after := #[], guard := none }) (v := ?vz5) rfl (by kernel_rfl) (by kernel_rfl) (by kernel_rfl) (fun _ _ _ h => h) (Or.inl ⟨by rfl, ?yz5⟩) HS ?rz5
  case yz5 => (intro wx hSw; skip; go_simp; first | done | with_reducible rfl | (intro hh; omega) | skip)
  try simp only [Act.put, List.setIfInBounds_toArray, List.set_cons_zero, List.set_cons_succ]
  refine wpAnyH_take (i := 6) (oi := { dst := some 80, op := Go.Op.load 26 (Go.Operand.tmp 7), type := 26, pos := "law.go:44", after := #[], guard := none }) (v := ?vz6) rfl (by kernel_rfl) (by kernel_rfl) (by kernel_rfl) (fun _ _ _ h => h) (Or.inl ⟨by rfl, ?yz6⟩) HS ?rz6
  case yz6 => (intro wx hSw; obtain ⟨c0, c1, c2, c3, c4, c5, c6, c7⟩ := eight_cells hSw.kb.f0; go_simp; first | done | with_reducible rfl | (intro hh; omega) | skip)
  try simp only [Act.put, List.setIfInBounds_toArray, List.set_cons_zero, List.set_cons_succ]
  refine wpAnyH_ready (rs := [4]) (by kernel_rfl) (by simp) ?_
  refine AllReadyH.cons (o := { dst := some 78, op := Go.Op.call { callee := Go.Callee.value (Go.Operand.func 13), args := #[Go.Operand.tmp 75, Go.Operand.tmp 77], argTypes := #[22, 3] }, type := 9, pos := "law.go:44", after := #[{ on := 1, ground := Go.Ground.data }, { on := 3, ground := Go.Ground.data }], guard := none }) rfl (fun K hK => ?_) AllReadyH.nil
  go_simp
  (with_reducible refine (BA.out _ (cell0_on HM.out HS.kb.q.below)).mono ?_); rintro e wc4 ⟨rfl, bc4⟩
  refine hK.out _ _ (kx_on HS bc4) (fun HS => ?_)
  try simp only [Act.put, List.setIfInBounds_toArray, List.set_cons_zero, List.set_cons_succ]
  refine wpAnyH_ready (rs := [7]) (by kernel_rfl) (by simp) ?_
  refine AllReadyH.cons (o := { dst := some 81, op := Go.Op.call { callee := Go.Callee.value (Go.Operand.tmp 79), args := #[Go.Operand.tmp 80], argTypes := #[26] }, type := 9, pos := "law.go:44", after := #[{ on := 5, ground := Go.Ground.data }, { on := 6, ground := Go.Ground.data }, { on := 4, ground := Go.Ground.chain }], guard := none }) rfl (fun K hK => ?_) AllReadyH.nil
  go_simp
  (with_reducible refine (WA.out _ (cell0_on HM.out HS.kb.q.below)).mono ?_); rintro e wc7 ⟨rfl, bc7⟩
  refine hK.out _ _ (kx_on HS bc7) (fun HS => ?_)
  try simp only [Act.put, List.setIfInBounds_toArray, List.set_cons_zero, List.set_cons_succ]
  refine wpAnyH_take (i := 8) (oi := { dst := some 82, op := Go.Op.binOp Go.BinOp.eql 9 (Go.Operand.tmp 78) (Go.Operand.tmp 81) 9, type := 4, pos := "law.go:44", after := #[{ on := 4, ground := Go.Ground.data }, { on := 7, ground := Go.Ground.data }], guard := none }) (v := (.bool true)) rfl (by kernel_rfl) (by kernel_rfl) (by kernel_rfl) (fun _ _ _ h => h) (Or.inl ⟨by rfl, ?yz8⟩) HS ?rz8
  case yz8 => (intro wx hSw; skip; go_simp; first | done | with_reducible rfl | (intro hh; omega) | skip)
  try simp only [Act.put, List.setIfInBounds_toArray, List.set_cons_zero, List.set_cons_succ]
  refine wpAnyH_take (i := 9) (oi := { dst := some 83, op := Go.Op.move (Go.Operand.tmp 82), type := 4, pos := "law.go:44", after := #[{ on := 8, ground := Go.Ground.data }, { on := 7, ground := Go.Ground.chain }], guard := none }) (v := (.bool true)) rfl (by kernel_rfl) (by kernel_rfl) (by kernel_rfl) (fun _ _ _ h => h) (Or.inl ⟨by rfl, ?yz9⟩) HS ?rz9
  case yz9 => (intro wx hSw; skip; go_simp; first | done | with_reducible rfl | (intro hh; omega) | skip)
  try simp only [Act.put, List.setIfInBounds_toArray, List.set_cons_zero, List.set_cons_succ]
  refine wpAnyH_take (i := 10) (oi := { dst := some 84, op := Go.Op.fieldAddr 24 (Go.Operand.tmp 2) 2, type := 0, pos := "law.go:44", after := #[{ on := 9, ground := Go.Ground.guard }], guard := some (9, true) }) (v := ?vz10) rfl (by kernel_rfl) (by kernel_rfl) (by kernel_rfl) (fun _ _ _ h => h) (Or.inl ⟨by rfl, ?yz10⟩) HS ?rz10
  case yz10 => (intro wx hSw; skip; go_simp; first | done | with_reducible rfl | (intro hh; omega) | skip)
  try simp only [Act.put, List.setIfInBounds_toArray, List.set_cons_zero, List.set_cons_succ]
  refine wpAnyH_take (i := 11) (oi := { dst := some 85, op := Go.Op.load 22 (Go.Operand.tmp 84), type := 22, pos := "law.go:44", after := #[{ on := 10, ground := Go.Ground.data }, { on := 9, ground := Go.Ground.guard }], guard := some (9, true) }) (v := ?vz11) rfl (by kernel_rfl) (by kernel_rfl) (by kernel_rfl) (fun _ _ _ h => h) (Or.inl ⟨by rfl, ?yz11⟩) HS ?rz11
  case yz11 => (intro wx hSw; obtain ⟨c0, c1, c2, c3, c4, c5, c6, c7⟩ := eight_cells hSw.kb.q.bt; go_simp; first | done | with_reducible rfl | (intro hh; omega) | skip)
  try simp only [Act.put, List.setIfInBounds_toArray, List.set_cons_zero, List.set_cons_succ]
  refine wpAnyH_take (i := 13) (oi := { dst := some 87, op := Go.Op.move (Go.Operand.tmp 5), type := 29, pos := "law.go:44", after := #[{ on := 9, ground := Go.Ground.guard }], guard := some (9, true) }) (v := ?vz13) rfl (by kernel_rfl) (by kernel_rfl) (by kernel_rfl) (fun _ _ _ h => h) (Or.inl ⟨by rfl, ?yz13⟩) HS ?rz13
  case yz13 => (intro wx hSw; skip; go_simp; first | done | with_reducible rfl | (intro hh; omega) | skip)
  try simp only [Act.put, List.setIfInBounds_toArray, List.set_cons_zero, List.set_cons_succ]
  refine wpAnyH_take (i := 14) (oi := { dst := some 88, op := Go.Op.load 26 (Go.Operand.tmp 8), type := 26, pos := "law.go:44", after := #[{ on := 9, ground := Go.Ground.guard }], guard := some (9, true) }) (v := ?vz14) rfl (by kernel_rfl) (by kernel_rfl) (by kernel_rfl) (fun _ _ _ h => h) (Or.inl ⟨by rfl, ?yz14⟩) HS ?rz14
  case yz14 => (intro wx hSw; obtain ⟨c0, c1, c2, c3, c4, c5, c6, c7⟩ := eight_cells hSw.kb.f1; go_simp; first | done | with_reducible rfl | (intro hh; omega) | skip)
  try simp only [Act.put, List.setIfInBounds_toArray, List.set_cons_zero, List.set_cons_succ]
  refine wpAnyH_ready (rs := [12]) (by kernel_rfl) (by simp) ?_
  refine AllReadyH.cons (o := { dst := some 86, op := Go.Op.call { callee := Go.Callee.value (Go.Operand.func 14), args := #[Go.Operand.tmp 85], argTypes := #[22] }, type := 9, pos := "law.go:44", after := #[{ on := 11, ground := Go.Ground.data }, { on := 9, ground := Go.Ground.chain }, { on := 9, ground := Go.Ground.guard }], guard := some (9, true) }) rfl (fun K hK => ?_) AllReadyH.nil
  go_simp
  (with_reducible refine (OR.out _ (cell0_on HM.out HS.kb.q.below)).mono ?_); rintro e wc12 ⟨rfl, bc12⟩
  refine hK.out _ _ (kx_on HS bc12) (fun HS => ?_)
  try simp only [Act.put, List.setIfInBounds_toArray, List.set_cons_zero, List.set_cons_succ]
  refine wpAnyH_ready (rs := [15]) (by kernel_rfl) (by simp) ?_
  refine AllReadyH.cons (o := { dst := some 89, op := Go.Op.call { callee := Go.Callee.value (Go.Operand.tmp 87), args := #[Go.Operand.tmp 88], argTypes := #[26] }, type := 9, pos := "law.go:44", after := #[{ on := 13, ground := Go.Ground.data }, { on := 14, ground := Go.Ground.data }, { on := 12, ground := Go.Ground.chain }, { on := 9, ground := Go.Ground.guard }], guard := some (9, true) }) rfl (fun K hK => ?_) AllReadyH.nil
  go_simp
  (with_reducible refine (WO.out _ (cell0_on HM.out HS.kb.q.below)).mono ?_); rintro e wc15 ⟨rfl, bc15⟩
  refine hK.out _ _ (kx_on HS bc15) (fun HS => ?_)
  try simp only [Act.put, List.setIfInBounds_toArray, List.set_cons_zero, List.set_cons_succ]
  refine wpAnyH_take (i := 16) (oi := { dst := some 90, op := Go.Op.binOp Go.BinOp.eql 9 (Go.Operand.tmp 86) (Go.Operand.tmp 89) 9, type := 4, pos := "law.go:44", after := #[{ on := 12, ground := Go.Ground.data }, { on := 15, ground := Go.Ground.data }, { on := 9, ground := Go.Ground.guard }], guard := some (9, true) }) (v := (.bool true)) rfl (by kernel_rfl) (by kernel_rfl) (by kernel_rfl) (fun _ _ _ h => h) (Or.inl ⟨by rfl, ?yz16⟩) HS ?rz16
  case yz16 => (intro wx hSw; skip; go_simp; first | done | with_reducible rfl | (intro hh; omega) | skip)
  try simp only [Act.put, List.setIfInBounds_toArray, List.set_cons_zero, List.set_cons_succ]
  refine wpAnyH_take (i := 17) (oi := { dst := some 91, op := Go.Op.pick (Go.Operand.tmp 83) (Go.Operand.tmp 90) (Go.Operand.const (Go.Value.bool false)), type := 4, pos := "law.go:44", after := #[{ on := 9, ground := Go.Ground.data }, { on := 16, ground := Go.Ground.data }], guard := none }) (v := (.bool true)) rfl (by kernel_rfl) (by kernel_rfl) (by kernel_rfl) (fun _ _ _ h => h) (Or.inl ⟨by rfl, ?yz17⟩) HS ?rz17
  case yz17 => (intro wx hSw; skip; go_simp; first | done | with_reducible rfl | (intro hh; omega) | skip)
  try simp only [Act.put, List.setIfInBounds_toArray, List.set_cons_zero, List.set_cons_succ]
  refine wpAnyH_take (i := 18) (oi := { dst := some 92, op := Go.Op.move (Go.Operand.tmp 91), type := 4, pos := "law.go:44", after := #[{ on := 17, ground := Go.Ground.data }, { on := 15, ground := Go.Ground.chain }], guard := none }) (v := (.bool true)) rfl (by kernel_rfl) (by kernel_rfl) (by kernel_rfl) (fun _ _ _ h => h) (Or.inl ⟨by rfl, ?yz18⟩) HS ?rz18
  case yz18 => (intro wx hSw; skip; go_simp; first | done | with_reducible rfl | (intro hh; omega) | skip)
  try simp only [Act.put, List.setIfInBounds_toArray, List.set_cons_zero, List.set_cons_succ]
  refine wpAnyH_take (i := 19) (oi := { dst := some 93, op := Go.Op.move (Go.Operand.tmp 20), type := 9, pos := "law.go:44", after := #[{ on := 18, ground := Go.Ground.guard }], guard := some (18, true) }) (v := ?vz19) rfl (by kernel_rfl) (by kernel_rfl) (by kernel_rfl) (fun _ _ _ h => h) (Or.inl ⟨by rfl, ?yz19⟩) HS ?rz19
  case yz19 => (intro wx hSw; skip; go_simp; first | done | with_reducible rfl | (intro hh; omega) | skip)
  try simp only [Act.put, List.setIfInBounds_toArray, List.set_cons_zero, List.set_cons_succ]
  refine wpAnyH_take (i := 20) (oi := { dst := some 94, op := Go.Op.move (Go.Operand.tmp 5), type := 29, pos := "law.go:44", after := #[{ on := 18, ground := Go.Ground.guard }], guard := some (18, true) }) (v := ?vz20) rfl (by kernel_rfl) (by kernel_rfl) (by kernel_rfl) (fun _ _ _ h => h) (Or.inl ⟨by rfl, ?yz20⟩) HS ?rz20
  case yz20 => (intro wx hSw; skip; go_simp; first | done | with_reducible rfl | (intro hh; omega) | skip)
  try simp only [Act.put, List.setIfInBounds_toArray, List.set_cons_zero, List.set_cons_succ]
  refine wpAnyH_take (i := 21) (oi := { dst := some 95, op := Go.Op.load 26 (Go.Operand.tmp 9), type := 26, pos := "law.go:44", after := #[{ on := 18, ground := Go.Ground.guard }], guard := some (18, true) }) (v := ?vz21) rfl (by kernel_rfl) (by kernel_rfl) (by kernel_rfl) (fun _ _ _ h => h) (Or.inl ⟨by rfl, ?yz21⟩) HS ?rz21
  case yz21 => (intro wx hSw; obtain ⟨c0, c1, c2, c3, c4, c5, c6, c7⟩ := eight_cells hSw.kb.f2; go_simp; first | done | with_reducible rfl | (intro hh; omega) | skip)
  try simp only [Act.put, List.setIfInBounds_toArray, List.set_cons_zero, List.set_cons_succ]
  refine wpAnyH_ready (rs := [22]) (by kernel_rfl) (by simp) ?_
  refine AllReadyH.cons (o := { dst := some 96, op := Go.Op.call { callee := Go.Callee.value (Go.Operand.tmp 94), args := #[Go.Operand.tmp 95], argTypes := #[26] }, type := 9, pos := "law.go:44", after := #[{ on := 20, ground := Go.Ground.data }, { on := 21, ground := Go.Ground.data }, { on := 18, ground := Go.Ground.chain }, { on := 18, ground := Go.Ground.guard }], guard := some (18, true) }) rfl (fun K hK => ?_) AllReadyH.nil
  go_simp
  (with_reducible refine (WB.out _ (cell0_on HM.out HS.kb.q.below)).mono ?_); rintro e wc22 ⟨rfl, bc22⟩
  refine hK.out _ _ (kx_on HS bc22) (fun HS => ?_)
  try simp only [Act.put, List.setIfInBounds_toArray, List.set_cons_zero, List.set_cons_succ]
  refine wpAnyH_take (i := 23) (oi := { dst := some 97, op := Go.Op.binOp Go.BinOp.eql 9 (Go.Operand.tmp 93) (Go.Operand.tmp 96) 9, type := 4, pos := "law.go:44", after := #[{ on := 19, ground := Go.Ground.data }, { on := 22, ground := Go.Ground.data }, { on := 18, ground := Go.Ground.guard }], guard := some (18, true) }) (v := (.bool true)) rfl (by kernel_rfl) (by kernel_rfl) (by kernel_rfl) (fun _ _ _ h => h) (Or.inl ⟨by rfl, ?yz23⟩) HS ?rz23
  case yz23 => (intro wx hSw; skip; go_simp; first | done | with_reducible rfl | (intro hh; omega) | skip)
  try simp only [Act.put, List.setIfInBounds_toArray, List.set_cons_zero, List.set_cons_succ]
  refine wpAnyH_take (i := 24) (oi := { dst := some 98, op := Go.Op.pick (Go.Operand.tmp 92) (Go.Operand.tmp 97) (Go.Operand.const (Go.Value.bool false)), type := 4, pos := "law.go:44", after := #[{ on := 18, ground := Go.Ground.data }, { on := 23, ground := Go.Ground.data }], guard := none }) (v := (.bool true)) rfl (by kernel_rfl) (by kernel_rfl) (by kernel_rfl) (fun _ _ _ h => h) (Or.inl ⟨by rfl, ?yz24⟩) HS ?rz24
  case yz24 => (intro wx hSw; skip; go_simp; first | done | with_reducible rfl | (intro hh; omega) | skip)
  try simp only [Act.put, List.setIfInBounds_toArray, List.set_cons_zero, List.set_cons_succ]
  refine wpAnyH_take (i := 25) (oi := { dst := some 99, op := Go.Op.move (Go.Operand.tmp 98), type := 4, pos := "law.go:44", after := #[{ on := 24, ground := Go.Ground.data }, { on := 22, ground := Go.Ground.chain }], guard := none }) (v := (.bool true)) rfl (by kernel_rfl) (by kernel_rfl) (by kernel_rfl) (fun _ _ _ h => h) (Or.inl ⟨by rfl, ?yz25⟩) HS ?rz25
  case yz25 => (intro wx hSw; skip; go_simp; first | done | with_reducible rfl | (intro hh; omega) | skip)
  try simp only [Act.put, List.setIfInBounds_toArray, List.set_cons_zero, List.set_cons_succ]
  refine wpAnyH_take (i := 26) (oi := { dst := some 100, op := Go.Op.fieldAddr 24 (Go.Operand.tmp 2) 6, type := 0, pos := "law.go:44", after := #[{ on := 25, ground := Go.Ground.guard }], guard := some (25, true) }) (v := ?vz26) rfl (by kernel_rfl) (by kernel_rfl) (by kernel_rfl) (fun _ _ _ h => h) (Or.inl ⟨by rfl, ?yz26⟩) HS ?rz26
  case yz26 => (intro wx hSw; skip; go_simp; first | done | with_reducible rfl | (intro hh; omega) | skip)
  try simp only [Act.put, List.setIfInBounds_toArray, List.set_cons_zero, List.set_cons_succ]
  refine wpAnyH_take (i := 27) (oi := { dst := some 101, op := Go.Op.load 22 (Go.Operand.tmp 100), type := 22, pos := "law.go:44", after := #[{ on := 26, ground := Go.Ground.data }, { on := 25, ground := Go.Ground.guard }], guard := some (25, true) }) (v := ?vz27) rfl (by kernel_rfl) (by kernel_rfl) (by kernel_rfl) (fun _ _ _ h => h) (Or.inl ⟨by rfl, ?yz27⟩) HS ?rz27
  case yz27 => (intro wx hSw; obtain ⟨c0, c1, c2, c3, c4, c5, c6, c7⟩ := eight_cells hSw.kb.q.bt; go_simp; first | done | with_reducible rfl | (intro hh; omega) | skip)
  try simp only [Act.put, List.setIfInBounds_toArray, List.set_cons_zero, List.set_cons_succ]
  refine wpAnyH_take (i := 28) (oi := { dst := some 102, op := Go.Op.fieldAddr 24 (Go.Operand.tmp 2) 2, type := 0, pos := "law.go:44", after := #[{ on := 25, ground := Go.Ground.guard }], guard := some (25, true) }) (v := ?vz28) rfl (by kernel_rfl) (by kernel_rfl) (by kernel_rfl) (fun _ _ _ h => h) (Or.inl ⟨by rfl, ?yz28⟩) HS ?rz28
  case yz28 => (intro wx hSw; skip; go_simp; first | done | with_reducible rfl | (intro hh; omega) | skip)
  try simp only [Act.put, List.setIfInBounds_toArray, List.set_cons_zero, List.set_cons_succ]
  refine wpAnyH_take (i := 29) (oi := { dst := some 103, op := Go.Op.load 22 (Go.Operand.tmp 102), type := 22, pos := "law.go:44", after := #[{ on := 28, ground := Go.Ground.data }, { on := 25, ground := Go.Ground.guard }], guard := some (25, true) }) (v := ?vz29) rfl (by kernel_rfl) (by kernel_rfl) (by kernel_rfl) (fun _ _ _ h => h) (Or.inl ⟨by rfl, ?yz29⟩) HS ?rz29
  case yz29 => (intro wx hSw; obtain ⟨c0, c1, c2, c3, c4, c5, c6, c7⟩ := eight_cells hSw.kb.q.bt; go_simp; first | done | with_reducible rfl | (intro hh; omega) | skip)
  try simp only [Act.put, List.setIfInBounds_toArray, List.set_cons_zero, List.set_cons_succ]
  refine wpAnyH_take (i := 31) (oi := { dst := some 105, op := Go.Op.move (Go.Operand.tmp 5), type := 29, pos := "law.go:44", after := #[{ on := 25, ground := Go.Ground.guard }], guard := some (25, true) }) (v := ?vz31) rfl (by kernel_rfl) (by kernel_rfl) (by kernel_rfl) (fun _ _ _ h => h) (Or.inl ⟨by rfl, ?yz31⟩) HS ?rz31
  case yz31 => (intro wx hSw; skip; go_simp; first | done | with_reducible rfl | (intro hh; omega) | skip)
  try simp only [Act.put, List.setIfInBounds_toArray, List.set_cons_zero, List.set_cons_succ]
  refine wpAnyH_take (i := 32) (oi := { dst := some 106, op := Go.Op.load 26 (Go.Operand.tmp 10), type := 26, pos := "law.go:44", after := #[{ on := 25, ground := Go.Ground.guard }], guard := some (25, true) }) (v := ?vz32) rfl (by kernel_rfl) (by kernel_rfl) (by kernel_rfl) (fun _ _ _ h => h) (Or.inl ⟨by rfl, ?yz32⟩) HS ?rz32
  case yz32 => (intro wx hSw; obtain ⟨c0, c1, c2, c3, c4, c5, c6, c7⟩ := eight_cells hSw.kb.f3; go_simp; first | done | with_reducible rfl | (intro hh; omega) | skip)
  try simp only [Act.put, List.setIfInBounds_toArray, List.set_cons_zero, List.set_cons_succ]
  refine wpAnyH_ready (rs := [30]) (by kernel_rfl) (by simp) ?_
  refine AllReadyH.cons (o := { dst := some 104, op := Go.Op.call { callee := Go.Callee.value (Go.Operand.func 15), args := #[Go.Operand.tmp 101, Go.Operand.tmp 103], argTypes := #[22, 22] }, type := 9, pos := "law.go:44", after := #[{ on := 27, ground := Go.Ground.data }, { on := 29, ground := Go.Ground.data }, { on := 25, ground := Go.Ground.chain }, { on := 25, ground := Go.Ground.guard }], guard := some (25, true) }) rfl (fun K hK => ?_) AllReadyH.nil
  go_simp
  (with_reducible refine (EX.out _ (cell0_on HM.out HS.kb.q.below)).mono ?_); rintro e wc30 ⟨rfl, bc30⟩
  refine hK.out _ _ (kx_on HS bc30) (fun HS => ?_)
  try simp only [Act.put, List.setIfInBounds_toArray, List.set_cons_zero, List.set_cons_succ]
  refine wpAnyH_ready (rs := [33]) (by kernel_rfl) (by simp) ?_
  refine AllReadyH.cons (o := { dst := some 107, op := Go.Op.call { callee := Go.Callee.value (Go.Operand.tmp 105), args := #[Go.Operand.tmp 106], argTypes := #[26] }, type := 9, pos := "law.go:44", after := #[{ on := 31, ground := Go.Ground.data }, { on := 32, ground := Go.Ground.data }, { on := 30, ground := Go.Ground.chain }, { on := 25, ground := Go.Ground.guard }], guard := some (25, true) }) rfl (fun K hK => ?_) AllReadyH.nil
  go_simp
  (with_reducible refine (WE.out _ (cell0_on HM.out HS.kb.q.below)).mono ?_); rintro e wc33 ⟨rfl, bc33⟩
  refine hK.out _ _ (kx_on HS bc33) (fun HS => ?_)
  try simp only [Act.put, List.setIfInBounds_toArray, List.set_cons_zero, List.set_cons_succ]
  refine wpAnyH_take (i := 34) (oi := { dst := some 108, op := Go.Op.binOp Go.BinOp.eql 9 (Go.Operand.tmp 104) (Go.Operand.tmp 107) 9, type := 4, pos := "law.go:44", after := #[{ on := 30, ground := Go.Ground.data }, { on := 33, ground := Go.Ground.data }, { on := 25, ground := Go.Ground.guard }], guard := some (25, true) }) (v := (.bool true)) rfl (by kernel_rfl) (by kernel_rfl) (by kernel_rfl) (fun _ _ _ h => h) (Or.inl ⟨by rfl, ?yz34⟩) HS ?rz34
  case yz34 => (intro wx hSw; skip; go_simp; first | done | with_reducible rfl | (intro hh; omega) | skip)
  try simp only [Act.put, List.setIfInBounds_toArray, List.set_cons_zero, List.set_cons_succ]
  refine wpAnyH_take (i := 35) (oi := { dst := some 109, op := Go.Op.pick (Go.Operand.tmp 99) (Go.Operand.tmp 108) (Go.Operand.const (Go.Value.bool false)), type := 4, pos := "law.go:44", after := #[{ on := 25, ground := Go.Ground.data }, { on := 34, ground := Go.Ground.data }], guard := none }) (v := (.bool true)) rfl (by kernel_rfl) (by kernel_rfl) (by kernel_rfl) (fun _ _ _ h => h) (Or.inl ⟨by rfl, ?yz35⟩) HS ?rz35
  case yz35 => (intro wx hSw; skip; go_simp; first | done | with_reducible rfl | (intro hh; omega) | skip)
  try simp only [Act.put, List.setIfInBounds_toArray, List.set_cons_zero, List.set_cons_succ]
  refine wpAnyH_take (i := 36) (oi := { dst := some 110, op := Go.Op.move (Go.Operand.tmp 109), type := 4, pos := "law.go:44", after := #[{ on := 35, ground := Go.Ground.data }, { on := 33, ground := Go.Ground.chain }], guard := none }) (v := (.bool true)) rfl (by kernel_rfl) (by kernel_rfl) (by kernel_rfl) (fun _ _ _ h => h) (Or.inl ⟨by rfl, ?yz36⟩) HS ?rz36
  case yz36 => (intro wx hSw; skip; go_simp; first | done | with_reducible rfl | (intro hh; omega) | skip)
  try simp only [Act.put, List.setIfInBounds_toArray, List.set_cons_zero, List.set_cons_succ]
  refine wpAnyH_take (i := 37) (oi := { dst := some 111, op := Go.Op.move (Go.Operand.tmp 12), type := 9, pos := "law.go:44", after := #[{ on := 36, ground := Go.Ground.guard }], guard := some (36, true) }) (v := ?vz37) rfl (by kernel_rfl) (by kernel_rfl) (by kernel_rfl) (fun _ _ _ h => h) (Or.inl ⟨by rfl, ?yz37⟩) HS ?rz37
  case yz37 => (intro wx hSw; skip; go_simp; first | done | with_reducible rfl | (intro hh; omega) | skip)
  try simp only [Act.put, List.setIfInBounds_toArray, List.set_cons_zero, List.set_cons_succ]
  refine wpAnyH_take (i := 38) (oi := { dst := some 112, op := Go.Op.move (Go.Operand.tmp 14), type := 9, pos := "law.go:44", after := #[{ on := 36, ground := Go.Ground.guard }], guard := some (36, true) }) (v := ?vz38) rfl (by kernel_rfl) (by kernel_rfl) (by kernel_rfl) (fun _ _ _ h => h) (Or.inl ⟨by rfl, ?yz38⟩) HS ?rz38
  case yz38 => (intro wx hSw; skip; go_simp; first | done | with_reducible rfl | (intro hh; omega) | skip)
  try simp only [Act.put, List.setIfInBounds_toArray, List.set_cons_zero, List.set_cons_succ]
  refine wpAnyH_take (i := 39) (oi := { dst := some 113, op := Go.Op.binOp Go.BinOp.eql 9 (Go.Operand.tmp 111) (Go.Operand.tmp 112) 9, type := 4, pos := "law.go:44", after := #[{ on := 37, ground := Go.Ground.data }, { on := 38, ground := Go.Ground.data }, { on := 36, ground := Go.Ground.guard }], guard := some (36, true) }) (v := (.bool true)) rfl (by kernel_rfl) (by kernel_rfl) (by kernel_rfl) (fun _ _ _ h => h) (Or.inl ⟨by rfl, ?yz39⟩) HS ?rz39
  case yz39 => (intro wx hSw; skip; go_simp; first | done | with_reducible rfl | (intro hh; omega) | skip)
  try simp only [Act.put, List.setIfInBounds_toArray, List.set_cons_zero, List.set_cons_succ]
  refine wpAnyH_take (i := 40) (oi := { dst := some 114, op := Go.Op.pick (Go.Operand.tmp 110) (Go.Operand.tmp 113) (Go.Operand.const (Go.Value.bool false)), type := 4, pos := "law.go:44", after := #[{ on := 36, ground := Go.Ground.data }, { on := 39, ground := Go.Ground.data }], guard := none }) (v := (.bool true)) rfl (by kernel_rfl) (by kernel_rfl) (by kernel_rfl) (fun _ _ _ h => h) (Or.inl ⟨by rfl, ?yz40⟩) HS ?rz40
  case yz40 => (intro wx hSw; skip; go_simp; first | done | with_reducible rfl | (intro hh; omega) | skip)
  try simp only [Act.put, List.setIfInBounds_toArray, List.set_cons_zero, List.set_cons_succ]
  refine wpAnyH_take (i := 41) (oi := { dst := some 115, op := Go.Op.move (Go.Operand.tmp 114), type := 4, pos := "law.go:44", after := #[{ on := 40, ground := Go.Ground.data }, { on := 36, ground := Go.Ground.chain }], guard := none }) (v := (.bool true)) rfl (by kernel_rfl) (by kernel_rfl) (by kernel_rfl) (fun _ _ _ h => h) (Or.inl ⟨by rfl, ?yz41⟩) HS ?rz41
  case yz41 => (intro wx hSw; skip; go_simp; first | done | with_reducible rfl | (intro hh; omega) | skip)
  try simp only [Act.put, List.setIfInBounds_toArray, List.set_cons_zero, List.set_cons_succ]
  refine wpAnyH_take (i := 42) (oi := { dst := some 116, op := Go.Op.move (Go.Operand.tmp 13), type := 30, pos := "law.go:44", after := #[{ on := 41, ground := Go.Ground.guard }], guard := some (41, true) }) (v := ?vz42) rfl (by kernel_rfl) (by kernel_rfl) (by kernel_rfl) (fun _ _ _ h => h) (Or.inl ⟨by rfl, ?yz42⟩) HS ?rz42
  case yz42 => (intro wx hSw; skip; go_simp; first | done | with_reducible rfl | (intro hh; omega) | skip)
  try simp only [Act.put, List.setIfInBounds_toArray, List.set_cons_zero, List.set_cons_succ]
  refine wpAnyH_take (i := 43) (oi := { dst := some 117, op := Go.Op.move (Go.Operand.tmp 15), type := 3, pos := "law.go:44", after := #[{ on := 41, ground := Go.Ground.guard }], guard := some (41, true) }) (v := ?vz43) rfl (by kernel_rfl) (by kernel_rfl) (by kernel_rfl) (fun _ _ _ h => h) (Or.inl ⟨by rfl, ?yz43⟩) HS ?rz43
  case yz43 => (intro wx hSw; skip; go_simp; first | done | with_reducible rfl | (intro hh; omega) | skip)
  try simp only [Act.put, List.setIfInBounds_toArray, List.set_cons_zero, List.set_cons_succ]
  refine wpAnyH_take (i := 44) (oi := { dst := some 118, op := Go.Op.binOp Go.BinOp.eql 3 (Go.Operand.tmp 116) (Go.Operand.tmp 117) 3, type := 4, pos := "law.go:44", after := #[{ on := 42, ground := Go.Ground.data }, { on := 43, ground := Go.Ground.data }, { on := 41, ground := Go.Ground.guard }], guard := some (41, true) }) (v := (.bool true)) rfl (by kernel_rfl) (by kernel_rfl) (by kernel_rfl) (fun _ _ _ h => h) (Or.inl ⟨by rfl, ?yz44⟩) HS ?rz44
  case yz44 => (intro wx hSw; skip; go_simp; first | done | with_reducible rfl | (intro hh; omega) | skip)
  try simp only [Act.put, List.setIfInBounds_toArray, List.set_cons_zero, List.set_cons_succ]
  refine wpAnyH_take (i := 45) (oi := { dst := some 119, op := Go.Op.pick (Go.Operand.tmp 115) (Go.Operand.tmp 118) (Go.Operand.const (Go.Value.bool false)), type := 4, pos := "law.go:44", after := #[{ on := 41, ground := Go.Ground.data }, { on := 44, ground := Go.Ground.data }], guard := none }) (v := (.bool true)) rfl (by kernel_rfl) (by kernel_rfl) (by kernel_rfl) (fun _ _ _ h => h) (Or.inl ⟨by rfl, ?yz45⟩) HS ?rz45
  case yz45 => (intro wx hSw; skip; go_simp; first | done | with_reducible rfl | (intro hh; omega) | skip)
  try simp only [Act.put, List.setIfInBounds_toArray, List.set_cons_zero, List.set_cons_succ]
  refine wpAnyH_take (i := 46) (oi := { dst := some 120, op := Go.Op.move (Go.Operand.tmp 119), type := 4, pos := "law.go:44", after := #[{ on := 45, ground := Go.Ground.data }, { on := 41, ground := Go.Ground.chain }], guard := none }) (v := (.bool true)) rfl (by kernel_rfl) (by kernel_rfl) (by kernel_rfl) (fun _ _ _ h => h) (Or.inl ⟨by rfl, ?yz46⟩) HS ?rz46
  case yz46 => (intro wx hSw; skip; go_simp; first | done | with_reducible rfl | (intro hh; omega) | skip)
  try simp only [Act.put, List.setIfInBounds_toArray, List.set_cons_zero, List.set_cons_succ]
  refine wpAnyH_take (i := 47) (oi := { dst := some 121, op := Go.Op.load 24 (Go.Operand.tmp 16), type := 24, pos := "law.go:44", after := #[{ on := 46, ground := Go.Ground.guard }], guard := some (46, true) }) (v := ?vz47) rfl (by kernel_rfl) (by kernel_rfl) (by kernel_rfl) (fun _ _ _ h => h) (Or.inl ⟨by rfl, ?yz47⟩) HS ?rz47
  case yz47 => (intro wx hSw; obtain ⟨c0, c1, c2, c3, c4, c5, c6, c7⟩ := eight_cells hSw.b16; go_simp; first | done | with_reducible rfl | (intro hh; omega) | skip)
  try simp only [Act.put, List.setIfInBounds_toArray, List.set_cons_zero, List.set_cons_succ]
  refine wpAnyH_take (i := 48) (oi := { dst := some 122, op := Go.Op.load 26 (Go.Operand.tmp 18), type := 26, pos := "law.go:44", after := #[{ on := 46, ground := Go.Ground.guard }], guard := some (46, true) }) (v := ?vz48) rfl (by kernel_rfl) (by kernel_rfl) (by kernel_rfl) (fun _ _ _ h => h) (Or.inl ⟨by rfl, ?yz48⟩) HS ?rz48
  case yz48 => (intro wx hSw; obtain ⟨c0, c1, c2, c3, c4, c5, c6, c7⟩ := eight_cells hSw.b18; go_simp; first | done | with_reducible rfl | (intro hh; omega) | skip)
  try simp only [Act.put, List.setIfInBounds_toArray, List.set_cons_zero, List.set_cons_succ]
  refine wpAnyH_take (i := 49) (oi := { dst := some 123, op := Go.Op.binOp Go.BinOp.eql 26 (Go.Operand.tmp 121) (Go.Operand.tmp 122) 26, type := 4, pos := "law.go:44", after := #[{ on := 47, ground := Go.Ground.data }, { on := 48, ground := Go.Ground.data }, { on := 46, ground := Go.Ground.guard }], guard := some (46, true) }) (v := (.bool true)) rfl (by kernel_rfl) (by kernel_rfl) (by kernel_rfl) (fun _ _ _ h => h) (Or.inl ⟨by rfl, ?yz49⟩) HS ?rz49
  case yz49 => (intro wx hSw; skip; go_simp; first | done | with_reducible rfl | (intro hh; omega) | skip)
  try simp only [Act.put, List.setIfInBounds_toArray, List.set_cons_zero, List.set_cons_succ]
  refine wpAnyH_take (i := 50) (oi := { dst := some 124, op := Go.Op.pick (Go.Operand.tmp 120) (Go.Operand.tmp 123) (Go.Operand.const (Go.Value.bool false)), type := 4, pos := "law.go:44", after := #[{ on := 46, ground := Go.Ground.data }, { on := 49, ground := Go.Ground.data }], guard := none }) (v := (.bool true)) rfl (by kernel_rfl) (by kernel_rfl) (by kernel_rfl) (fun _ _ _ h => h) (Or.inl ⟨by rfl, ?yz50⟩) HS ?rz50
  case yz50 => (intro wx hSw; skip; go_simp; first | done | with_reducible rfl | (intro hh; omega) | skip)
  try simp only [Act.put, List.setIfInBounds_toArray, List.set_cons_zero, List.set_cons_succ]
  refine wpAnyH_take (i := 51) (oi := { dst := some 125, op := Go.Op.move (Go.Operand.tmp 124), type := 4, pos := "law.go:44", after := #[{ on := 50, ground := Go.Ground.data }, { on := 46, ground := Go.Ground.chain }], guard := none }) (v := (.bool true)) rfl (by kernel_rfl) (by kernel_rfl) (by kernel_rfl) (fun _ _ _ h => h) (Or.inl ⟨by rfl, ?yz51⟩) HS ?rz51
  case yz51 => (intro wx hSw; skip; go_simp; first | done | with_reducible rfl | (intro hh; omega) | skip)
  try simp only [Act.put, List.setIfInBounds_toArray, List.set_cons_zero, List.set_cons_succ]
  refine wpAnyH_take (i := 52) (oi := { dst := some 126, op := Go.Op.move (Go.Operand.tmp 17), type := 30, pos := "law.go:44", after := #[{ on := 51, ground := Go.Ground.guard }], guard := some (51, true) }) (v := ?vz52) rfl (by kernel_rfl) (by kernel_rfl) (by kernel_rfl) (fun _ _ _ h => h) (Or.inl ⟨by rfl, ?yz52⟩) HS ?rz52
  case yz52 => (intro wx hSw; skip; go_simp; first | done | with_reducible rfl | (intro hh; omega) | skip)
  try simp only [Act.put, List.setIfInBounds_toArray, List.set_cons_zero, List.set_cons_succ]
  refine wpAnyH_take (i := 53) (oi := { dst := some 127, op := Go.Op.move (Go.Operand.tmp 19), type := 3, pos := "law.go:44", after := #[{ on := 51, ground := Go.Ground.guard }], guard := some (51, true) }) (v := ?vz53) rfl (by kernel_rfl) (by kernel_rfl) (by kernel_rfl) (fun _ _ _ h => h) (Or.inl ⟨by rfl, ?yz53⟩) HS ?rz53
  case yz53 => (intro wx hSw; skip; go_simp; first | done | with_reducible rfl | (intro hh; omega) | skip)
  try simp only [Act.put, List.setIfInBounds_toArray, List.set_cons_zero, List.set_cons_succ]
  refine wpAnyH_take (i := 54) (oi := { dst := some 128, op := Go.Op.binOp Go.BinOp.eql 3 (Go.Operand.tmp 126) (Go.Operand.tmp 127) 3, type := 4, pos := "law.go:44", after := #[{ on := 52, ground := Go.Ground.data }, { on := 53, ground := Go.Ground.data }, { on := 51, ground := Go.Ground.guard }], guard := some (51, true) }) (v := (.bool true)) rfl (by kernel_rfl) (by kernel_rfl) (by kernel_rfl) (fun _ _ _ h => h) (Or.inl ⟨by rfl, ?yz54⟩) HS ?rz54
  case yz54 => (intro wx hSw; skip; go_simp; first | done | with_reducible rfl | (intro hh; omega) | skip)
  try simp only [Act.put, List.setIfInBounds_toArray, List.set_cons_zero, List.set_cons_succ]
  refine wpAnyH_take (i := 55) (oi := { dst := some 129, op := Go.Op.pick (Go.Operand.tmp 125) (Go.Operand.tmp 128) (Go.Operand.const (Go.Value.bool false)), type := 4, pos := "law.go:44", after := #[{ on := 51, ground := Go.Ground.data }, { on := 54, ground := Go.Ground.data }], guard := none }) (v := (.bool true)) rfl (by kernel_rfl) (by kernel_rfl) (by kernel_rfl) (fun _ _ _ h => h) (Or.inl ⟨by rfl, ?yz55⟩) HS ?rz55
  case yz55 => (intro wx hSw; skip; go_simp; first | done | with_reducible rfl | (intro hh; omega) | skip)
  try simp only [Act.put, List.setIfInBounds_toArray, List.set_cons_zero, List.set_cons_succ]
  refine wpAnyH_take (i := 56) (oi := { dst := some 4, op := Go.Op.assign (Go.Operand.tmp 129), type := 4, pos := "law.go:44", after := #[{ on := 55, ground := Go.Ground.data }, { on := 51, ground := Go.Ground.chain }, { on := 0, ground := Go.Ground.phase }, { on := 1, ground := Go.Ground.phase }, { on := 2, ground := Go.Ground.phase }, { on := 3, ground := Go.Ground.phase }, { on := 4, ground := Go.Ground.phase }, { on := 5, ground := Go.Ground.phase }, { on := 6, ground := Go.Ground.phase }, { on := 7, ground := Go.Ground.phase }, { on := 8, ground := Go.Ground.phase }, { on := 9, ground := Go.Ground.phase }, { on := 10, ground := Go.Ground.phase }, { on := 11, ground := Go.Ground.phase }, { on := 12, ground := Go.Ground.phase }, { on := 13, ground := Go.Ground.phase }, { on := 14, ground := Go.Ground.phase }, { on := 15, ground := Go.Ground.phase }, { on := 16, ground := Go.Ground.phase }, { on := 17, ground := Go.Ground.phase }, { on := 18, ground := Go.Ground.phase }, { on := 19, ground := Go.Ground.phase }, { on := 20, ground := Go.Ground.phase }, { on := 21, ground := Go.Ground.phase }, { on := 22, ground := Go.Ground.phase }, { on := 23, ground := Go.Ground.phase }, { on := 24, ground := Go.Ground.phase }, { on := 25, ground := Go.Ground.phase }, { on := 26, ground := Go.Ground.phase }, { on := 27, ground := Go.Ground.phase }, { on := 28, ground := Go.Ground.phase }, { on := 29, ground := Go.Ground.phase }, { on := 30, ground := Go.Ground.phase }, { on := 31, ground := Go.Ground.phase }, { on := 32, ground := Go.Ground.phase }, { on := 33, ground := Go.Ground.phase }, { on := 34, ground := Go.Ground.phase }, { on := 35, ground := Go.Ground.phase }, { on := 36, ground := Go.Ground.phase }, { on := 37, ground := Go.Ground.phase }, { on := 38, ground := Go.Ground.phase }, { on := 39, ground := Go.Ground.phase }, { on := 40, ground := Go.Ground.phase }, { on := 41, ground := Go.Ground.phase }, { on := 42, ground := Go.Ground.phase }, { on := 43, ground := Go.Ground.phase }, { on := 44, ground := Go.Ground.phase }, { on := 45, ground := Go.Ground.phase }, { on := 46, ground := Go.Ground.phase }, { on := 47, ground := Go.Ground.phase }, { on := 48, ground := Go.Ground.phase }, { on := 49, ground := Go.Ground.phase }, { on := 50, ground := Go.Ground.phase }, { on := 51, ground := Go.Ground.phase }, { on := 52, ground := Go.Ground.phase }, { on := 53, ground := Go.Ground.phase }, { on := 54, ground := Go.Ground.phase }, { on := 55, ground := Go.Ground.phase }], guard := none }) (v := ?vz56) rfl (by kernel_rfl) (by kernel_rfl) (by kernel_rfl) (fun _ _ _ h => h) (Or.inl ⟨by rfl, ?yz56⟩) HS ?rz56
  case yz56 => (intro wx hSw; skip; go_simp; first | done | with_reducible rfl | (intro hh; omega) | skip)
  try simp only [Act.put, List.setIfInBounds_toArray, List.set_cons_zero, List.set_cons_succ]
  refine wpAnyH_done (by kernel_rfl) ?_ _
  refine NoPanic.normal ?_
  go_wp2
  go_ret
  exact ⟨rfl, HS.kb.q.below⟩
end Go.Proofs.YtelbhegkaihjhaaDoor
