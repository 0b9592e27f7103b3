/-
  The document's keys of a market, walked: rows of things. Conditions: as each theorem states.
-/
import Derived.Test.YtelbhegkaihjhaaDoorScF
import Derived.Test.YtelbhegkaihjhaaDoorKmG
import Derived.Deep.RegionHeldLaw
namespace Go.Proofs.YtelbhegkaihjhaaDoor
open Go.RowKit
open Vi

theorem rup_any (n : Int) (w : World) : Calls Tryd.prog 35 #[.int .i64 n] w fun e w' => e = .returned (.agg #[.int .u8 105, .int .i64 n, .int .u64 0, .string ⟨#[]⟩]) ∧ Below w.heap.size w w' := by
  go_enter Tryd.func35, Tryd.ntmps35
  go_wp2
  exact bodyPost_ret (v := .agg #[.int .u8 105, .int .i64 n, .int .u64 0, .string ⟨#[]⟩]) (by simp [results, Tryd.results35, go_sem]) rfl ⟨rfl, (Below.refl _ _).alloc (Nat.le_refl _) _⟩
theorem rdown_any (n : Int) (w : World) : Calls Tryd.prog 36 #[.int .i64 n] w fun e w' => e = .returned (.agg #[.int .u8 100, .int .i64 n, .int .u64 0, .string ⟨#[]⟩]) ∧ Below w.heap.size w w' := by
  go_enter Tryd.func36, Tryd.ntmps36
  go_wp2
  exact bodyPost_ret (v := .agg #[.int .u8 100, .int .i64 n, .int .u64 0, .string ⟨#[]⟩]) (by simp [results, Tryd.results36, go_sem]) rfl ⟨rfl, (Below.refl _ _).alloc (Nat.le_refl _) _⟩
theorem rcount_any (n : Nat) (w : World) : Calls Tryd.prog 34 #[.int .u64 n] w fun e w' => e = .returned (.agg #[.int .u8 117, .int .i64 0, .int .u64 n, .string ⟨#[]⟩]) ∧ Below w.heap.size w w' := by
  go_enter Tryd.func34, Tryd.ntmps34
  go_wp2
  exact bodyPost_ret (v := .agg #[.int .u8 117, .int .i64 0, .int .u64 n, .string ⟨#[]⟩]) (by simp [results, Tryd.results34, go_sem]) rfl ⟨rfl, (Below.refl _ _).alloc (Nat.le_refl _) _⟩
theorem rtext_any (s : ByteArray) (w : World) : Calls Tryd.prog 16 #[.string s] w fun e w' => e = .returned (.agg #[.int .u8 116, .int .i64 0, .int .u64 0, .string s]) ∧ Below w.heap.size w w' := by
  go_enter Tryd.func16, Tryd.ntmps16
  go_wp2
  exact bodyPost_ret (v := .agg #[.int .u8 116, .int .i64 0, .int .u64 0, .string s]) (by simp [results, Tryd.results16, go_sem]) rfl ⟨rfl, (Below.refl _ _).alloc (Nat.le_refl _) _⟩
/-- a box of a thing -/
structure RB (w : World) (x : Th) (W : World) : Prop where
  below : Below w.heap.size w W
  box : W.heap[w.heap.size]? = some (.cells x.cells 26 (0, 0))
theorem own_on {w wr w1 : World} {e : TypeId} {v : Value} {n : Nat} {xs : List Value} (h : wr.ownsRow w.heap.size e 4 v n xs) (b : Below wr.heap.size wr w1) : w1.ownsRow w.heap.size e 4 v n xs :=
  h.kept (row := none) ⟨b.os, b.tape, b.output, b.size, fun k hk _ => b.block k hk⟩ (by cases v.ownBlock <;> simp)
theorem own_drew {w wr : World} {e : TypeId} {v : Value} {n : Nat} {xs : List Value} (h : wr.ownsRow w.heap.size e 4 v n xs) : wr.drew.ownsRow w.heap.size e 4 v n xs := h
section
variable {w W W' : World} {x : Th}
theorem rb_new (w : World) (x : Th) : RB w x (w.alloc (.cells x.cells 26)) := ⟨(Below.refl _ _).alloc (Nat.le_refl _) _, heap_alloc_new w _⟩
theorem rb_on (h : RB w x W) (hb : Below W.heap.size W W') : RB w x W' := ⟨h.below.trans (hb.mono h.below.size), (hb.block _ (Array.getElem?_eq_some_iff.1 h.box).1).trans h.box⟩
theorem rb_alloc (h : RB w x W) (o : Obj) : RB w x (W.alloc o) := rb_on h ((Below.refl _ _).alloc (Nat.le_refl _) o)
theorem rb_drew (h : RB w x W) : RB w x W.drew := ⟨h.below.drew, h.box⟩
theorem rb_grow {v : Value} {n : Nat} {xs : List Value} (h : RB w x W) (ho : W.ownsRow w.heap.size 46 4 v n xs) (hg : W.grownBy W' v.ownBlock) : RB w x W' := by
  have hne : some w.heap.size ≠ v.ownBlock := fun e => by
    obtain ⟨cur, hc⟩ := own_at ho e.symm
    rw [h.box] at hc
    injection hc with hc; injection hc with _ hc
    exact absurd hc (by decide)
  exact ⟨(h.below.trans ⟨hg.os, hg.tape, hg.output, hg.size, fun k hk => hg.block k (Nat.lt_of_lt_of_le hk h.below.size) fun e => by have := (ho.lt k e.symm).1; omega⟩), (hg.block _ (Array.getElem?_eq_some_iff.1 h.box).1 hne).trans h.box⟩
theorem rb_cells {s n : ByteArray} {a i r t : Nat} {k p : Int} (h : RB w ⟨s, a, i, k, p, r, t, n⟩ W) : W.cell? ⟨w.heap.size, 0, none⟩ = some (.string s) ∧ W.cell? ⟨w.heap.size, 1, none⟩ = some (.int .u64 a) ∧ W.cell? ⟨w.heap.size, 2, none⟩ = some (.int .u64 i) ∧ W.cell? ⟨w.heap.size, 3, none⟩ = some (.int .i64 k) ∧ W.cell? ⟨w.heap.size, 4, none⟩ = some (.int .i64 p) ∧ W.cell? ⟨w.heap.size, 5, none⟩ = some (.int .u64 r) ∧ W.cell? ⟨w.heap.size, 6, none⟩ = some (.int .u64 t) ∧ W.cell? ⟨w.heap.size, 7, none⟩ = some (.string n) := eight_cells h.box
end
/-- beside it a box of a part -/
structure RQ (w : World) (x : Th) (k4 : Nat) (q : KPart) (W : World) : Prop where
  rb : RB w x W
  pb : W.heap[k4]? = some (.cells #[.int .u8 q.sort, .int .i64 q.n, .int .u64 q.u, .string q.s] 46 (0, 0))
section
variable {w W W' : World} {x : Th} {k4 : Nat} {q : KPart}
theorem rq_on (h : RQ w x k4 q W) (hb : Below W.heap.size W W') : RQ w x k4 q W' := ⟨rb_on h.rb hb, (hb.block _ (Array.getElem?_eq_some_iff.1 h.pb).1).trans h.pb⟩
theorem rq_alloc (h : RQ w x k4 q W) (o : Obj) : RQ w x k4 q (W.alloc o) := rq_on h ((Below.refl _ _).alloc (Nat.le_refl _) o)
theorem rq_drew (h : RQ w x k4 q W) : RQ w x k4 q W.drew := ⟨rb_drew h.rb, h.pb⟩
theorem rq_grow {v : Value} {n : Nat} {xs : List Value} (h : RQ w x k4 q W) (hne : v.ownBlock ≠ some k4) (ho : W.ownsRow w.heap.size 46 4 v n xs) (hg : W.grownBy W' v.ownBlock) : RQ w x k4 q W' :=
  ⟨rb_grow h.rb ho hg, (hg.block _ (Array.getElem?_eq_some_iff.1 h.pb).1 (fun e => hne e.symm)).trans h.pb⟩
theorem four_grown (W : World) (g : Nat) (v0 v1 v2 v3 : Value) : W.grownBy ((((W.setCell ⟨g, 0, none⟩ v0).setCell ⟨g, 1, none⟩ v1).setCell ⟨g, 2, none⟩ v2).setCell ⟨g, 3, none⟩ v3) (some g) :=
  (((grown_set W g 0 v0).trans (grown_set _ g 1 v1)).trans (grown_set _ g 2 v2)).trans (grown_set _ g 3 v3)
theorem rb_four (h : RB w x W) {g : Nat} (hg : w.heap.size < g) (v0 v1 v2 v3 : Value) : RB w x ((((W.setCell ⟨g, 0, none⟩ v0).setCell ⟨g, 1, none⟩ v1).setCell ⟨g, 2, none⟩ v2).setCell ⟨g, 3, none⟩ v3) := by
  have gr := four_grown W g v0 v1 v2 v3
  exact ⟨four_below h.below (by omega) _ _ _ _, (gr.block _ (Array.getElem?_eq_some_iff.1 h.box).1 (fun e => by injection e with e; omega)).trans h.box⟩
end
theorem rown_one {w W : World} (hB : w.heap.size ≤ W.heap.size) (s : ByteArray) : (W.alloc (.cells #[.int .u8 116, .int .i64 0, .int .u64 0, .string s] 46 (0, 0))).ownsRow w.heap.size 46 4 (.slice (some ⟨W.heap.size, 0, none⟩) 1 1) 1 ([kText s].flatMap KPart.cells) :=
  ⟨rfl, .inr ⟨W.heap.size, 1, _, rfl, hB, heap_alloc_new _ _, Nat.le_refl _, by decide, rfl, rfl⟩⟩
theorem cells_many (l : List KPart) : ∀ u ∈ l.flatMap KPart.cells, u.oneCell' = true := by
  intro u hu
  obtain ⟨q, _, hq⟩ := List.mem_flatMap.1 hu
  exact cells_one q u hq
def RwPost (w : World) (l : List KPart) (e : Ending) (w' : World) : Prop := (∃ v, e = .returned v ∧ w'.ownsRow w.heap.size 46 4 v l.length (l.flatMap KPart.cells)) ∧ Below w.heap.size w w'
set_option maxRecDepth 100000 in
set_option maxHeartbeats 4000000 in
theorem rrow_a {w : World} (a i : Nat) (k p : Int) (r t : Nat) (n : ByteArray) :
    Calls Tryd.prog 21 #[.agg #[.string ⟨#[97]⟩, .int .u64 a, .int .u64 i, .int .i64 k, .int .i64 p, .int .u64 r, .int .u64 t, .string n]] w (RwPost w [kText ⟨#[97]⟩, kCount a, kUp k]) := by
  obtain ⟨i0, hi, hz0, hz1, hz2⟩ := info_parts infoRPart
  have HI := Lib.hid (And.intro hi (And.intro hz0 (And.intro hz1 hz2)))
  clear hi hz0 hz1 hz2
  have X0 := rb_new w ⟨⟨#[97]⟩, a, i, k, p, r, t, n⟩
  go_enter Tryd.func21, Tryd.ntmps21
  go_wp2_with (go_at_call 16; (with_reducible refine (rtext_any _ _).mono ?_); rintro e w1 ⟨rfl, b1⟩; have X1 := rb_alloc (rb_on X0 b1) (.cells #[.int .u8 116, .int .i64 0, .int .u64 0, .string ⟨#[97]⟩] 46); obtain ⟨c0, c1, c2, c3, c4, c5, c6, c7⟩ := rb_cells X1; have hw1 := (rb_on X0 b1).below.size; have O1 := Lib.hid (rown_one hw1 ⟨#[97]⟩))
  refine wp_region_noPanic ?_
  refine wp_region_held_drew (S := (fun wx => RB w ⟨⟨#[97]⟩, a, i, k, p, r, t, n⟩ wx)) (by kernel_rfl) (rb_drew X1) (fun HS => ?_)
  refine wpAnyH_take (S := (fun wx => RB w ⟨⟨#[97]⟩, a, i, k, p, r, t, n⟩ wx)) (i := 0) (oi := { dst := some 13, op := Go.Op.move (Go.Operand.tmp 3), type := 48, pos := "ref.go:23", after := #[], guard := none }) (v := ?vz0) rfl (by kernel_rfl) (by kernel_rfl) (by kernel_rfl) (fun _ _ _ h => h) (Or.inl ⟨by rfl, ?yz0⟩) HS ?rz0
  case yz0 => (intro wx hSw; obtain ⟨c0, c1, c2, c3, c4, c5, c6, c7⟩ := rb_cells hSw; go_simp; first | done | with_reducible rfl | (intro hh; omega) | skip)
  try simp only [Act.put, List.setIfInBounds_toArray, List.set_cons_zero, List.set_cons_succ]
  refine wpAnyH_take (S := (fun wx => RB w ⟨⟨#[97]⟩, a, i, k, p, r, t, n⟩ wx)) (i := 1) (oi := { dst := some 14, op := Go.Op.fieldAddr 26 (Go.Operand.tmp 1) 1, type := 0, pos := "ref.go:23", after := #[], guard := none }) (v := ?vz1) rfl (by kernel_rfl) (by kernel_rfl) (by kernel_rfl) (fun _ _ _ h => h) (Or.inl ⟨by rfl, ?yz1⟩) HS ?rz1
  case yz1 => (intro wx hSw; obtain ⟨c0, c1, c2, c3, c4, c5, c6, c7⟩ := rb_cells hSw; go_simp; first | done | with_reducible rfl | (intro hh; omega) | skip)
  try simp only [Act.put, List.setIfInBounds_toArray, List.set_cons_zero, List.set_cons_succ]
  refine wpAnyH_take (S := (fun wx => RB w ⟨⟨#[97]⟩, a, i, k, p, r, t, n⟩ wx)) (i := 2) (oi := { dst := some 15, op := Go.Op.load 22 (Go.Operand.tmp 14), type := 22, pos := "ref.go:23", after := #[{ on := 1, ground := Go.Ground.data }], guard := none }) (v := ?vz2) rfl (by kernel_rfl) (by kernel_rfl) (by kernel_rfl) (fun _ _ _ h => h) (Or.inl ⟨by rfl, ?yz2⟩) HS ?rz2
  case yz2 => (intro wx hSw; obtain ⟨c0, c1, c2, c3, c4, c5, c6, c7⟩ := rb_cells hSw; go_simp; first | done | with_reducible rfl | (intro hh; omega) | skip)
  try simp only [Act.put, List.setIfInBounds_toArray, List.set_cons_zero, List.set_cons_succ]
  refine wpAnyH_take (S := (fun wx => RB w ⟨⟨#[97]⟩, a, i, k, p, r, t, n⟩ wx)) (i := 4) (oi := { dst := some 17, op := Go.Op.fieldAddr 26 (Go.Operand.tmp 1) 3, type := 0, pos := "ref.go:23", after := #[], guard := none }) (v := ?vz4) rfl (by kernel_rfl) (by kernel_rfl) (by kernel_rfl) (fun _ _ _ h => h) (Or.inl ⟨by rfl, ?yz4⟩) HS ?rz4
  case yz4 => (intro wx hSw; obtain ⟨c0, c1, c2, c3, c4, c5, c6, c7⟩ := rb_cells hSw; go_simp; first | done | with_reducible rfl | (intro hh; omega) | skip)
  try simp only [Act.put, List.setIfInBounds_toArray, List.set_cons_zero, List.set_cons_succ]
  refine wpAnyH_take (S := (fun wx => RB w ⟨⟨#[97]⟩, a, i, k, p, r, t, n⟩ wx)) (i := 5) (oi := { dst := some 18, op := Go.Op.load 3 (Go.Operand.tmp 17), type := 3, pos := "ref.go:23", after := #[{ on := 4, ground := Go.Ground.data }], guard := none }) (v := ?vz5) rfl (by kernel_rfl) (by kernel_rfl) (by kernel_rfl) (fun _ _ _ h => h) (Or.inl ⟨by rfl, ?yz5⟩) HS ?rz5
  case yz5 => (intro wx hSw; obtain ⟨c0, c1, c2, c3, c4, c5, c6, c7⟩ := rb_cells hSw; go_simp; first | done | with_reducible rfl | (intro hh; omega) | skip)
  try simp only [Act.put, List.setIfInBounds_toArray, List.set_cons_zero, List.set_cons_succ]
  refine wpAnyH_ready (rs := [3]) (by kernel_rfl) (by simp) ?_
  refine AllReadyH.cons (o := { dst := some 16, op := Go.Op.call { callee := Go.Callee.value (Go.Operand.func 34), args := #[Go.Operand.tmp 15], argTypes := #[22] }, type := 46, pos := "ref.go:23", after := #[{ on := 2, ground := Go.Ground.data }], guard := none }) rfl (fun K hK => ?_) AllReadyH.nil
  go_simp
  (with_reducible refine (rcount_any a _).mono ?_); rintro e wc0 ⟨rfl, bc0⟩; have P0 := Lib.hid (own_on (own_drew O1.out) bc0)
  refine hK.out _ _ (rb_on HS bc0) (fun HS => ?_)
  try simp only [Act.put, List.setIfInBounds_toArray, List.set_cons_zero, List.set_cons_succ]
  refine wpAnyH_ready (rs := [6]) (by kernel_rfl) (by simp) ?_
  refine AllReadyH.cons (o := { dst := some 19, op := Go.Op.call { callee := Go.Callee.value (Go.Operand.func 35), args := #[Go.Operand.tmp 18], argTypes := #[2] }, type := 46, pos := "ref.go:23", after := #[{ on := 5, ground := Go.Ground.data }, { on := 3, ground := Go.Ground.chain }], guard := none }) rfl (fun K hK => ?_) AllReadyH.nil
  go_simp
  (with_reducible refine (rup_any k _).mono ?_); rintro e wc1 ⟨rfl, bc1⟩; have P1 := Lib.hid (own_on P0.out bc1)
  refine hK.out _ _ (rb_on HS bc1) (fun HS => ?_)
  try simp only [Act.put, List.setIfInBounds_toArray, List.set_cons_zero, List.set_cons_succ]
  refine wpAnyH_ready (rs := [7]) (by kernel_rfl) (by simp) ?_
  refine AllReadyH.cons (o := { dst := some 20, op := Go.Op.buildSlice 48 2 #[(0, Go.Operand.tmp 16), (1, Go.Operand.tmp 19)], type := 48, pos := "ref.go:23", after := #[{ on := 3, ground := Go.Ground.data }, { on := 6, ground := Go.Ground.data }], guard := none }) rfl (fun K hK => ?_) AllReadyH.nil
  go_simp
  skip
  refine hK.out _ _ (rb_alloc HS _) (fun HS => ?_)
  try simp only [Act.put, List.setIfInBounds_toArray, List.set_cons_zero, List.set_cons_succ]
  refine wpAnyH_ready (rs := [8]) (by kernel_rfl) (by simp) ?_
  refine AllReadyH.cons (o := { dst := some 21, op := Go.Op.call { callee := Go.Callee.builtin Go.Builtin.append, args := #[Go.Operand.tmp 13, Go.Operand.tmp 20], argTypes := #[48, 48] }, type := 48, pos := "ref.go:23", after := #[{ on := 0, ground := Go.Ground.data }, { on := 7, ground := Go.Ground.data }, { on := 6, ground := Go.Ground.chain }], guard := none }) rfl (fun K hK => ?_) AllReadyH.nil
  refine step_append_lies _ rfl (.tmp 13) (.tmp 20) 48 rfl w.heap.size 46 i0 _ 4 40 Tryd.underlying48 HI.out.1 HI.out.2.1 HI.out.2.2.1 HI.out.2.2.2 rfl (by decide) (.slice (some ⟨w1.heap.size, 0, none⟩) 1 1) 1 ([kText ⟨#[97]⟩].flatMap KPart.cells) rfl (P1.out.alloc _) ⟨wc1.heap.size, 0, none⟩ 2 2 ([⟨117, 0, a, ⟨#[]⟩⟩, ⟨105, k, 0, ⟨#[]⟩⟩].flatMap KPart.cells) rfl rfl (World.news_of_block (heap_alloc_new wc1 (.cells #[.int .u8 117, .int .i64 0, .int .u64 a, .string ⟨#[]⟩, .int .u8 105, .int .i64 k, .int .u64 0, .string ⟨#[]⟩] 46))) (cells_many _) (by omega) (by unfold maxLen; omega) (by omega) (by have := HS.below.size; simpa using this) (wc1.heap.size + 1) (by simp) ?_
  intro g8 cap8 w8 hown8 hgrow8 hwhere8 hlt8
  have HE := Lib.hid (And.intro hown8 hgrow8)
  clear hown8 hwhere8 hlt8
  refine hK.out _ _ (rb_grow HS (P1.out.alloc _) hgrow8) (fun HS => ?_)
  try simp only [Act.put, List.setIfInBounds_toArray, List.set_cons_zero, List.set_cons_succ]
  refine wpAnyH_take (S := (fun wx => RB w ⟨⟨#[97]⟩, a, i, k, p, r, t, n⟩ wx)) (i := 9) (oi := { dst := some 3, op := Go.Op.assign (Go.Operand.tmp 21), type := 48, pos := "ref.go:23", after := #[{ on := 8, ground := Go.Ground.data }, { on := 8, ground := Go.Ground.chain }, { on := 0, ground := Go.Ground.phase }, { on := 1, ground := Go.Ground.phase }, { on := 2, ground := Go.Ground.phase }, { on := 3, ground := Go.Ground.phase }, { on := 4, ground := Go.Ground.phase }, { on := 5, ground := Go.Ground.phase }, { on := 6, ground := Go.Ground.phase }, { on := 7, ground := Go.Ground.phase }, { on := 8, ground := Go.Ground.phase }], guard := none }) (v := ?vz9) rfl (by kernel_rfl) (by kernel_rfl) (by kernel_rfl) (fun _ _ _ h => h) (Or.inl ⟨by rfl, ?yz9⟩) HS ?rz9
  case yz9 => (intro wx hSw; obtain ⟨c0, c1, c2, c3, c4, c5, c6, c7⟩ := rb_cells hSw; go_simp; first | done | with_reducible rfl | (intro hh; omega) | skip)
  try simp only [Act.put, List.setIfInBounds_toArray, List.set_cons_zero, List.set_cons_succ]
  refine wpAnyH_done (by kernel_rfl) ?_ _
  refine NoPanic.normal ?_
  go_wp2
  go_ret
  exact ⟨⟨_, rfl, HE.out.1⟩, HS.below⟩
set_option maxRecDepth 100000 in
set_option maxHeartbeats 4000000 in
theorem rrow_e {w : World} (a i : Nat) (k p : Int) (r t : Nat) (n : ByteArray) :
    Calls Tryd.prog 21 #[.agg #[.string ⟨#[101]⟩, .int .u64 a, .int .u64 i, .int .i64 k, .int .i64 p, .int .u64 r, .int .u64 t, .string n]] w (RwPost w [kText ⟨#[101]⟩, kCount t, kCount i]) := by
  obtain ⟨i0, hi, hz0, hz1, hz2⟩ := info_parts infoRPart
  have HI := Lib.hid (And.intro hi (And.intro hz0 (And.intro hz1 hz2)))
  clear hi hz0 hz1 hz2
  have X0 := rb_new w ⟨⟨#[101]⟩, a, i, k, p, r, t, n⟩
  go_enter Tryd.func21, Tryd.ntmps21
  go_wp2_with (go_at_call 16; (with_reducible refine (rtext_any _ _).mono ?_); rintro e w1 ⟨rfl, b1⟩; have X1 := rb_alloc (rb_on X0 b1) (.cells #[.int .u8 116, .int .i64 0, .int .u64 0, .string ⟨#[101]⟩] 46); obtain ⟨c0, c1, c2, c3, c4, c5, c6, c7⟩ := rb_cells X1; have hw1 := (rb_on X0 b1).below.size; have O1 := Lib.hid (rown_one hw1 ⟨#[101]⟩))
  refine wp_region_noPanic ?_
  refine wp_region_held_drew (S := (fun wx => RB w ⟨⟨#[101]⟩, a, i, k, p, r, t, n⟩ wx)) (by kernel_rfl) (rb_drew X1) (fun HS => ?_)
  refine wpAnyH_take (S := (fun wx => RB w ⟨⟨#[101]⟩, a, i, k, p, r, t, n⟩ wx)) (i := 0) (oi := { dst := some 56, op := Go.Op.move (Go.Operand.tmp 3), type := 48, pos := "ref.go:33", after := #[], guard := none }) (v := ?vz0) rfl (by kernel_rfl) (by kernel_rfl) (by kernel_rfl) (fun _ _ _ h => h) (Or.inl ⟨by rfl, ?yz0⟩) HS ?rz0
  case yz0 => (intro wx hSw; obtain ⟨c0, c1, c2, c3, c4, c5, c6, c7⟩ := rb_cells hSw; go_simp; first | done | with_reducible rfl | (intro hh; omega) | skip)
  try simp only [Act.put, List.setIfInBounds_toArray, List.set_cons_zero, List.set_cons_succ]
  refine wpAnyH_take (S := (fun wx => RB w ⟨⟨#[101]⟩, a, i, k, p, r, t, n⟩ wx)) (i := 1) (oi := { dst := some 57, op := Go.Op.fieldAddr 26 (Go.Operand.tmp 1) 6, type := 0, pos := "ref.go:33", after := #[], guard := none }) (v := ?vz1) rfl (by kernel_rfl) (by kernel_rfl) (by kernel_rfl) (fun _ _ _ h => h) (Or.inl ⟨by rfl, ?yz1⟩) HS ?rz1
  case yz1 => (intro wx hSw; obtain ⟨c0, c1, c2, c3, c4, c5, c6, c7⟩ := rb_cells hSw; go_simp; first | done | with_reducible rfl | (intro hh; omega) | skip)
  try simp only [Act.put, List.setIfInBounds_toArray, List.set_cons_zero, List.set_cons_succ]
  refine wpAnyH_take (S := (fun wx => RB w ⟨⟨#[101]⟩, a, i, k, p, r, t, n⟩ wx)) (i := 2) (oi := { dst := some 58, op := Go.Op.load 22 (Go.Operand.tmp 57), type := 22, pos := "ref.go:33", after := #[{ on := 1, ground := Go.Ground.data }], guard := none }) (v := ?vz2) rfl (by kernel_rfl) (by kernel_rfl) (by kernel_rfl) (fun _ _ _ h => h) (Or.inl ⟨by rfl, ?yz2⟩) HS ?rz2
  case yz2 => (intro wx hSw; obtain ⟨c0, c1, c2, c3, c4, c5, c6, c7⟩ := rb_cells hSw; go_simp; first | done | with_reducible rfl | (intro hh; omega) | skip)
  try simp only [Act.put, List.setIfInBounds_toArray, List.set_cons_zero, List.set_cons_succ]
  refine wpAnyH_take (S := (fun wx => RB w ⟨⟨#[101]⟩, a, i, k, p, r, t, n⟩ wx)) (i := 4) (oi := { dst := some 60, op := Go.Op.fieldAddr 26 (Go.Operand.tmp 1) 2, type := 0, pos := "ref.go:33", after := #[], guard := none }) (v := ?vz4) rfl (by kernel_rfl) (by kernel_rfl) (by kernel_rfl) (fun _ _ _ h => h) (Or.inl ⟨by rfl, ?yz4⟩) HS ?rz4
  case yz4 => (intro wx hSw; obtain ⟨c0, c1, c2, c3, c4, c5, c6, c7⟩ := rb_cells hSw; go_simp; first | done | with_reducible rfl | (intro hh; omega) | skip)
  try simp only [Act.put, List.setIfInBounds_toArray, List.set_cons_zero, List.set_cons_succ]
  refine wpAnyH_take (S := (fun wx => RB w ⟨⟨#[101]⟩, a, i, k, p, r, t, n⟩ wx)) (i := 5) (oi := { dst := some 61, op := Go.Op.load 22 (Go.Operand.tmp 60), type := 22, pos := "ref.go:33", after := #[{ on := 4, ground := Go.Ground.data }], guard := none }) (v := ?vz5) rfl (by kernel_rfl) (by kernel_rfl) (by kernel_rfl) (fun _ _ _ h => h) (Or.inl ⟨by rfl, ?yz5⟩) HS ?rz5
  case yz5 => (intro wx hSw; obtain ⟨c0, c1, c2, c3, c4, c5, c6, c7⟩ := rb_cells hSw; go_simp; first | done | with_reducible rfl | (intro hh; omega) | skip)
  try simp only [Act.put, List.setIfInBounds_toArray, List.set_cons_zero, List.set_cons_succ]
  refine wpAnyH_ready (rs := [3]) (by kernel_rfl) (by simp) ?_
  refine AllReadyH.cons (o := { dst := some 59, op := Go.Op.call { callee := Go.Callee.value (Go.Operand.func 34), args := #[Go.Operand.tmp 58], argTypes := #[22] }, type := 46, pos := "ref.go:33", after := #[{ on := 2, ground := Go.Ground.data }], guard := none }) rfl (fun K hK => ?_) AllReadyH.nil
  go_simp
  (with_reducible refine (rcount_any t _).mono ?_); rintro e wc0 ⟨rfl, bc0⟩; have P0 := Lib.hid (own_on (own_drew O1.out) bc0)
  refine hK.out _ _ (rb_on HS bc0) (fun HS => ?_)
  try simp only [Act.put, List.setIfInBounds_toArray, List.set_cons_zero, List.set_cons_succ]
  refine wpAnyH_ready (rs := [6]) (by kernel_rfl) (by simp) ?_
  refine AllReadyH.cons (o := { dst := some 62, op := Go.Op.call { callee := Go.Callee.value (Go.Operand.func 34), args := #[Go.Operand.tmp 61], argTypes := #[22] }, type := 46, pos := "ref.go:33", after := #[{ on := 5, ground := Go.Ground.data }, { on := 3, ground := Go.Ground.chain }], guard := none }) rfl (fun K hK => ?_) AllReadyH.nil
  go_simp
  (with_reducible refine (rcount_any i _).mono ?_); rintro e wc1 ⟨rfl, bc1⟩; have P1 := Lib.hid (own_on P0.out bc1)
  refine hK.out _ _ (rb_on HS bc1) (fun HS => ?_)
  try simp only [Act.put, List.setIfInBounds_toArray, List.set_cons_zero, List.set_cons_succ]
  refine wpAnyH_ready (rs := [7]) (by kernel_rfl) (by simp) ?_
  refine AllReadyH.cons (o := { dst := some 63, op := Go.Op.buildSlice 48 2 #[(0, Go.Operand.tmp 59), (1, Go.Operand.tmp 62)], type := 48, pos := "ref.go:33", after := #[{ on := 3, ground := Go.Ground.data }, { on := 6, ground := Go.Ground.data }], guard := none }) rfl (fun K hK => ?_) AllReadyH.nil
  go_simp
  skip
  refine hK.out _ _ (rb_alloc HS _) (fun HS => ?_)
  try simp only [Act.put, List.setIfInBounds_toArray, List.set_cons_zero, List.set_cons_succ]
  refine wpAnyH_ready (rs := [8]) (by kernel_rfl) (by simp) ?_
  refine AllReadyH.cons (o := { dst := some 64, op := Go.Op.call { callee := Go.Callee.builtin Go.Builtin.append, args := #[Go.Operand.tmp 56, Go.Operand.tmp 63], argTypes := #[48, 48] }, type := 48, pos := "ref.go:33", after := #[{ on := 0, ground := Go.Ground.data }, { on := 7, ground := Go.Ground.data }, { on := 6, ground := Go.Ground.chain }], guard := none }) rfl (fun K hK => ?_) AllReadyH.nil
  refine step_append_lies _ rfl (.tmp 56) (.tmp 63) 48 rfl w.heap.size 46 i0 _ 4 40 Tryd.underlying48 HI.out.1 HI.out.2.1 HI.out.2.2.1 HI.out.2.2.2 rfl (by decide) (.slice (some ⟨w1.heap.size, 0, none⟩) 1 1) 1 ([kText ⟨#[101]⟩].flatMap KPart.cells) rfl (P1.out.alloc _) ⟨wc1.heap.size, 0, none⟩ 2 2 ([⟨117, 0, t, ⟨#[]⟩⟩, ⟨117, 0, i, ⟨#[]⟩⟩].flatMap KPart.cells) rfl rfl (World.news_of_block (heap_alloc_new wc1 (.cells #[.int .u8 117, .int .i64 0, .int .u64 t, .string ⟨#[]⟩, .int .u8 117, .int .i64 0, .int .u64 i, .string ⟨#[]⟩] 46))) (cells_many _) (by omega) (by unfold maxLen; omega) (by omega) (by have := HS.below.size; simpa using this) (wc1.heap.size + 1) (by simp) ?_
  intro g8 cap8 w8 hown8 hgrow8 hwhere8 hlt8
  have HE := Lib.hid (And.intro hown8 hgrow8)
  clear hown8 hwhere8 hlt8
  refine hK.out _ _ (rb_grow HS (P1.out.alloc _) hgrow8) (fun HS => ?_)
  try simp only [Act.put, List.setIfInBounds_toArray, List.set_cons_zero, List.set_cons_succ]
  refine wpAnyH_take (S := (fun wx => RB w ⟨⟨#[101]⟩, a, i, k, p, r, t, n⟩ wx)) (i := 9) (oi := { dst := some 3, op := Go.Op.assign (Go.Operand.tmp 64), type := 48, pos := "ref.go:33", after := #[{ on := 8, ground := Go.Ground.data }, { on := 8, ground := Go.Ground.chain }, { on := 0, ground := Go.Ground.phase }, { on := 1, ground := Go.Ground.phase }, { on := 2, ground := Go.Ground.phase }, { on := 3, ground := Go.Ground.phase }, { on := 4, ground := Go.Ground.phase }, { on := 5, ground := Go.Ground.phase }, { on := 6, ground := Go.Ground.phase }, { on := 7, ground := Go.Ground.phase }, { on := 8, ground := Go.Ground.phase }], guard := none }) (v := ?vz9) rfl (by kernel_rfl) (by kernel_rfl) (by kernel_rfl) (fun _ _ _ h => h) (Or.inl ⟨by rfl, ?yz9⟩) HS ?rz9
  case yz9 => (intro wx hSw; obtain ⟨c0, c1, c2, c3, c4, c5, c6, c7⟩ := rb_cells hSw; go_simp; first | done | with_reducible rfl | (intro hh; omega) | skip)
  try simp only [Act.put, List.setIfInBounds_toArray, List.set_cons_zero, List.set_cons_succ]
  refine wpAnyH_done (by kernel_rfl) ?_ _
  refine NoPanic.normal ?_
  go_wp2
  go_ret
  exact ⟨⟨_, rfl, HE.out.1⟩, HS.below⟩
set_option maxRecDepth 100000 in
set_option maxHeartbeats 4000000 in
theorem rrow_o {w : World} (a i : Nat) (k p : Int) (r t : Nat) (n : ByteArray) :
    Calls Tryd.prog 21 #[.agg #[.string ⟨#[111]⟩, .int .u64 a, .int .u64 i, .int .i64 k, .int .i64 p, .int .u64 r, .int .u64 t, .string n]] w (RwPost w [kText ⟨#[111]⟩, kCount i]) := by
  obtain ⟨i0, hi, hz0, hz1, hz2⟩ := info_parts infoRPart
  have HI := Lib.hid (And.intro hi (And.intro hz0 (And.intro hz1 hz2)))
  clear hi hz0 hz1 hz2
  have X0 := rb_new w ⟨⟨#[111]⟩, a, i, k, p, r, t, n⟩
  go_enter Tryd.func21, Tryd.ntmps21
  go_wp2_with (first
    | (go_at_call 16; (with_reducible refine (rtext_any _ _).mono ?_); rintro e w1 ⟨rfl, b1⟩; have X1 := rb_alloc (rb_on X0 b1) (.cells #[.int .u8 116, .int .i64 0, .int .u64 0, .string ⟨#[111]⟩] 46); obtain ⟨c0, c1, c2, c3, c4, c5, c6, c7⟩ := rb_cells X1; have hw1 := (rb_on X0 b1).below.size; have O1 := Lib.hid (rown_one hw1 ⟨#[111]⟩))
    | (go_at_call 34; (with_reducible refine (rcount_any i _).mono ?_); rintro e w2 ⟨rfl, b2⟩; have P2 := Lib.hid (own_on O1.out b2); have X2 := rb_on X1 b2; have hw2 := X2.below.size)
    | (at_builtin
       refine wpList_append_lies _ rfl _ _ 48 rfl w.heap.size 46 i0 _ 4 40 Tryd.underlying48 HI.out.1 HI.out.2.1 HI.out.2.2.1 HI.out.2.2.2 rfl (by decide) (.slice (some ⟨w1.heap.size, 0, none⟩) 1 1) 1 ([kText ⟨#[111]⟩].flatMap KPart.cells) rfl (P2.out.alloc _) ⟨w2.heap.size, 0, none⟩ 1 1 ([⟨117, 0, i, ⟨#[]⟩⟩].flatMap KPart.cells) rfl rfl (World.news_of_block (heap_alloc_new w2 (.cells #[.int .u8 117, .int .i64 0, .int .u64 i, .string ⟨#[]⟩] 46))) (cells_many _) (by omega) (by unfold maxLen; omega) (by omega) (by simp; omega) (w2.heap.size + 1) (by simp) ?_
       intro g8 cap8 w8 hown8 hgrow8 hwhere8 hlt8
       have HE := Lib.hid (And.intro hown8 hgrow8)
       have HS := rb_grow (rb_alloc X2 _) (P2.out.alloc _) hgrow8
       clear hown8 hwhere8 hlt8 hgrow8))
  go_ret
  exact ⟨⟨_, rfl, HE.out.1⟩, HS.below⟩
set_option maxRecDepth 100000 in
set_option maxHeartbeats 4000000 in
theorem rrow_n {w : World} (a i : Nat) (k p : Int) (r t : Nat) (n : ByteArray) :
    Calls Tryd.prog 21 #[.agg #[.string ⟨#[110]⟩, .int .u64 a, .int .u64 i, .int .i64 k, .int .i64 p, .int .u64 r, .int .u64 t, .string n]] w (RwPost w [kText ⟨#[110]⟩, kText n]) := by
  obtain ⟨i0, hi, hz0, hz1, hz2⟩ := info_parts infoRPart
  have HI := Lib.hid (And.intro hi (And.intro hz0 (And.intro hz1 hz2)))
  clear hi hz0 hz1 hz2
  have X0 := rb_new w ⟨⟨#[110]⟩, a, i, k, p, r, t, n⟩
  go_enter Tryd.func21, Tryd.ntmps21
  go_wp2_with (first
    | (go_at_call 16; have Z := O1; (with_reducible refine (rtext_any n _).mono ?_); rintro e w2 ⟨rfl, b2⟩; have P2 := Lib.hid (own_on O1.out b2); have X2 := rb_on X1 b2; have hw2 := X2.below.size)
    | (go_at_call 16; (with_reducible refine (rtext_any ⟨#[110]⟩ _).mono ?_); rintro e w1 ⟨rfl, b1⟩; have X1 := rb_alloc (rb_on X0 b1) (.cells #[.int .u8 116, .int .i64 0, .int .u64 0, .string ⟨#[110]⟩] 46); obtain ⟨c0, c1, c2, c3, c4, c5, c6, c7⟩ := rb_cells X1; have hw1 := (rb_on X0 b1).below.size; have O1 := Lib.hid (rown_one hw1 ⟨#[110]⟩))
    | (at_builtin
       refine wpList_append_lies _ rfl _ _ 48 rfl w.heap.size 46 i0 _ 4 40 Tryd.underlying48 HI.out.1 HI.out.2.1 HI.out.2.2.1 HI.out.2.2.2 rfl (by decide) (.slice (some ⟨w1.heap.size, 0, none⟩) 1 1) 1 ([kText ⟨#[110]⟩].flatMap KPart.cells) rfl (P2.out.alloc _) ⟨w2.heap.size, 0, none⟩ 1 1 ([⟨116, 0, 0, n⟩].flatMap KPart.cells) rfl rfl (World.news_of_block (heap_alloc_new w2 (.cells #[.int .u8 116, .int .i64 0, .int .u64 0, .string n] 46))) (cells_many _) (by omega) (by unfold maxLen; omega) (by omega) (by simp; omega) (w2.heap.size + 1) (by simp) ?_
       intro g8 cap8 w8 hown8 hgrow8 hwhere8 hlt8
       have HE := Lib.hid (And.intro hown8 hgrow8)
       have HS := rb_grow (rb_alloc X2 _) (P2.out.alloc _) hgrow8
       clear hown8 hwhere8 hlt8 hgrow8))
  go_ret
  exact ⟨⟨_, rfl, HE.out.1⟩, HS.below⟩
set_option maxRecDepth 100000 in
set_option maxHeartbeats 4000000 in
theorem rrow_b_sell {w : World} (a i : Nat) (k p : Int) (r t : Nat) (n : ByteArray) (hk : (k == 1) = false) :
    Calls Tryd.prog 21 #[.agg #[.string ⟨#[98]⟩, .int .u64 a, .int .u64 i, .int .i64 k, .int .i64 p, .int .u64 r, .int .u64 t, .string n]] w (RwPost w [kText ⟨#[98]⟩, kUp k, kUp p, kCount r, kCount i]) := by
  obtain ⟨i0, hi, hz0, hz1, hz2⟩ := info_parts infoRPart
  have HI := Lib.hid (And.intro hi (And.intro hz0 (And.intro hz1 hz2)))
  clear hi hz0 hz1 hz2
  have X0 := rb_new w ⟨⟨#[98]⟩, a, i, k, p, r, t, n⟩
  go_enter Tryd.func21, Tryd.ntmps21
  go_wp2_with (first
    | (go_at_call 16; (with_reducible refine (rtext_any _ _).mono ?_); rintro e w1 ⟨rfl, b1⟩; have X1 := rb_alloc (rb_on X0 b1) (.cells #[.int .u8 116, .int .i64 0, .int .u64 0, .string ⟨#[98]⟩] 46); obtain ⟨c0, c1, c2, c3, c4, c5, c6, c7⟩ := rb_cells X1; have hw1 := (rb_on X0 b1).below.size; have O1 := Lib.hid (rown_one hw1 ⟨#[98]⟩))
    | (go_at_call 35; (with_reducible refine (rup_any p _).mono ?_); rintro e w2 ⟨rfl, b2⟩; have P2 := Lib.hid (own_on O1.out b2); have X2 := rb_alloc (rb_on X1 b2) (.cells #[.int .u8 105, .int .i64 p, .int .u64 0, .string ⟨#[]⟩] 46); obtain ⟨d0, d1, d2, d3, d4, d5, d6, d7⟩ := rb_cells X2; have hw2 := (rb_on X1 b2).below.size; have hs2 := b2.size))
  have hs2' : w1.heap.size + 1 ≤ w2.heap.size := by simpa using hs2
  have hne4 : (Value.slice (some ⟨w1.heap.size, 0, none⟩) 1 1).ownBlock ≠ some w2.heap.size := fun e => by
    have h1 : w1.heap.size = w2.heap.size := by simpa [Value.ownBlock] using e
    omega
  have Q2 : RQ w ⟨⟨#[98]⟩, a, i, k, p, r, t, n⟩ w2.heap.size ⟨105, p, 0, ⟨#[]⟩⟩ (w2.alloc (.cells #[.int .u8 105, .int .i64 p, .int .u64 0, .string ⟨#[]⟩] 46)) := ⟨X2, heap_alloc_new w2 _⟩
  have O2 := Lib.hid (P2.out.alloc (.cells #[.int .u8 105, .int .i64 p, .int .u64 0, .string ⟨#[]⟩] 46))
  refine wp_region_noPanic ?_
  refine wp_region_held_drew (S := (fun wx => RQ w ⟨⟨#[98]⟩, a, i, k, p, r, t, n⟩ w2.heap.size ⟨105, p, 0, ⟨#[]⟩⟩ wx)) (by kernel_rfl) (rq_drew Q2) (fun HS => ?_)
  refine wpAnyH_take (S := (fun wx => RQ w ⟨⟨#[98]⟩, a, i, k, p, r, t, n⟩ w2.heap.size ⟨105, p, 0, ⟨#[]⟩⟩ wx)) (i := 0) (oi := { dst := some 41, op := Go.Op.move (Go.Operand.tmp 3), type := 48, pos := "ref.go:31", after := #[], guard := none }) (v := ?vz0) rfl (by kernel_rfl) (by kernel_rfl) (by kernel_rfl) (fun _ _ _ h => h) (Or.inl ⟨by rfl, ?yz0⟩) HS ?rz0
  case yz0 => (intro wx hSw; obtain ⟨c0, c1, c2, c3, c4, c5, c6, c7⟩ := rb_cells hSw.rb; obtain ⟨⟨e0, e1, e2, e3⟩, _⟩ := rcells4 hSw.pb; go_simp; first | done | with_reducible rfl | (intro hh; omega) | skip)
  try simp only [Act.put, List.setIfInBounds_toArray, List.set_cons_zero, List.set_cons_succ]
  refine wpAnyH_take (S := (fun wx => RQ w ⟨⟨#[98]⟩, a, i, k, p, r, t, n⟩ w2.heap.size ⟨105, p, 0, ⟨#[]⟩⟩ wx)) (i := 1) (oi := { dst := some 42, op := Go.Op.fieldAddr 26 (Go.Operand.tmp 1) 3, type := 0, pos := "ref.go:31", after := #[], guard := none }) (v := ?vz1) rfl (by kernel_rfl) (by kernel_rfl) (by kernel_rfl) (fun _ _ _ h => h) (Or.inl ⟨by rfl, ?yz1⟩) HS ?rz1
  case yz1 => (intro wx hSw; obtain ⟨c0, c1, c2, c3, c4, c5, c6, c7⟩ := rb_cells hSw.rb; obtain ⟨⟨e0, e1, e2, e3⟩, _⟩ := rcells4 hSw.pb; go_simp; first | done | with_reducible rfl | (intro hh; omega) | skip)
  try simp only [Act.put, List.setIfInBounds_toArray, List.set_cons_zero, List.set_cons_succ]
  refine wpAnyH_take (S := (fun wx => RQ w ⟨⟨#[98]⟩, a, i, k, p, r, t, n⟩ w2.heap.size ⟨105, p, 0, ⟨#[]⟩⟩ wx)) (i := 2) (oi := { dst := some 43, op := Go.Op.load 3 (Go.Operand.tmp 42), type := 3, pos := "ref.go:31", after := #[{ on := 1, ground := Go.Ground.data }], guard := none }) (v := ?vz2) rfl (by kernel_rfl) (by kernel_rfl) (by kernel_rfl) (fun _ _ _ h => h) (Or.inl ⟨by rfl, ?yz2⟩) HS ?rz2
  case yz2 => (intro wx hSw; obtain ⟨c0, c1, c2, c3, c4, c5, c6, c7⟩ := rb_cells hSw.rb; obtain ⟨⟨e0, e1, e2, e3⟩, _⟩ := rcells4 hSw.pb; go_simp; first | done | with_reducible rfl | (intro hh; omega) | skip)
  try simp only [Act.put, List.setIfInBounds_toArray, List.set_cons_zero, List.set_cons_succ]
  refine wpAnyH_take (S := (fun wx => RQ w ⟨⟨#[98]⟩, a, i, k, p, r, t, n⟩ w2.heap.size ⟨105, p, 0, ⟨#[]⟩⟩ wx)) (i := 4) (oi := { dst := some 45, op := Go.Op.load 46 (Go.Operand.tmp 4), type := 46, pos := "ref.go:31", after := #[], guard := none }) (v := ?vz4) rfl (by kernel_rfl) (by kernel_rfl) (by kernel_rfl) (fun _ _ _ h => h) (Or.inl ⟨by rfl, ?yz4⟩) HS ?rz4
  case yz4 => (intro wx hSw; obtain ⟨c0, c1, c2, c3, c4, c5, c6, c7⟩ := rb_cells hSw.rb; obtain ⟨⟨e0, e1, e2, e3⟩, _⟩ := rcells4 hSw.pb; go_simp; first | done | with_reducible rfl | (intro hh; omega) | skip)
  try simp only [Act.put, List.setIfInBounds_toArray, List.set_cons_zero, List.set_cons_succ]
  refine wpAnyH_take (S := (fun wx => RQ w ⟨⟨#[98]⟩, a, i, k, p, r, t, n⟩ w2.heap.size ⟨105, p, 0, ⟨#[]⟩⟩ wx)) (i := 5) (oi := { dst := some 46, op := Go.Op.fieldAddr 26 (Go.Operand.tmp 1) 5, type := 0, pos := "ref.go:31", after := #[], guard := none }) (v := ?vz5) rfl (by kernel_rfl) (by kernel_rfl) (by kernel_rfl) (fun _ _ _ h => h) (Or.inl ⟨by rfl, ?yz5⟩) HS ?rz5
  case yz5 => (intro wx hSw; obtain ⟨c0, c1, c2, c3, c4, c5, c6, c7⟩ := rb_cells hSw.rb; obtain ⟨⟨e0, e1, e2, e3⟩, _⟩ := rcells4 hSw.pb; go_simp; first | done | with_reducible rfl | (intro hh; omega) | skip)
  try simp only [Act.put, List.setIfInBounds_toArray, List.set_cons_zero, List.set_cons_succ]
  refine wpAnyH_take (S := (fun wx => RQ w ⟨⟨#[98]⟩, a, i, k, p, r, t, n⟩ w2.heap.size ⟨105, p, 0, ⟨#[]⟩⟩ wx)) (i := 6) (oi := { dst := some 47, op := Go.Op.load 22 (Go.Operand.tmp 46), type := 22, pos := "ref.go:31", after := #[{ on := 5, ground := Go.Ground.data }], guard := none }) (v := ?vz6) rfl (by kernel_rfl) (by kernel_rfl) (by kernel_rfl) (fun _ _ _ h => h) (Or.inl ⟨by rfl, ?yz6⟩) HS ?rz6
  case yz6 => (intro wx hSw; obtain ⟨c0, c1, c2, c3, c4, c5, c6, c7⟩ := rb_cells hSw.rb; obtain ⟨⟨e0, e1, e2, e3⟩, _⟩ := rcells4 hSw.pb; go_simp; first | done | with_reducible rfl | (intro hh; omega) | skip)
  try simp only [Act.put, List.setIfInBounds_toArray, List.set_cons_zero, List.set_cons_succ]
  refine wpAnyH_take (S := (fun wx => RQ w ⟨⟨#[98]⟩, a, i, k, p, r, t, n⟩ w2.heap.size ⟨105, p, 0, ⟨#[]⟩⟩ wx)) (i := 8) (oi := { dst := some 49, op := Go.Op.fieldAddr 26 (Go.Operand.tmp 1) 2, type := 0, pos := "ref.go:31", after := #[], guard := none }) (v := ?vz8) rfl (by kernel_rfl) (by kernel_rfl) (by kernel_rfl) (fun _ _ _ h => h) (Or.inl ⟨by rfl, ?yz8⟩) HS ?rz8
  case yz8 => (intro wx hSw; obtain ⟨c0, c1, c2, c3, c4, c5, c6, c7⟩ := rb_cells hSw.rb; obtain ⟨⟨e0, e1, e2, e3⟩, _⟩ := rcells4 hSw.pb; go_simp; first | done | with_reducible rfl | (intro hh; omega) | skip)
  try simp only [Act.put, List.setIfInBounds_toArray, List.set_cons_zero, List.set_cons_succ]
  refine wpAnyH_take (S := (fun wx => RQ w ⟨⟨#[98]⟩, a, i, k, p, r, t, n⟩ w2.heap.size ⟨105, p, 0, ⟨#[]⟩⟩ wx)) (i := 9) (oi := { dst := some 50, op := Go.Op.load 22 (Go.Operand.tmp 49), type := 22, pos := "ref.go:31", after := #[{ on := 8, ground := Go.Ground.data }], guard := none }) (v := ?vz9) rfl (by kernel_rfl) (by kernel_rfl) (by kernel_rfl) (fun _ _ _ h => h) (Or.inl ⟨by rfl, ?yz9⟩) HS ?rz9
  case yz9 => (intro wx hSw; obtain ⟨c0, c1, c2, c3, c4, c5, c6, c7⟩ := rb_cells hSw.rb; obtain ⟨⟨e0, e1, e2, e3⟩, _⟩ := rcells4 hSw.pb; go_simp; first | done | with_reducible rfl | (intro hh; omega) | skip)
  try simp only [Act.put, List.setIfInBounds_toArray, List.set_cons_zero, List.set_cons_succ]
  refine wpAnyH_ready (rs := [3]) (by kernel_rfl) (by simp) ?_
  refine AllReadyH.cons (o := { dst := some 44, op := Go.Op.call { callee := Go.Callee.value (Go.Operand.func 35), args := #[Go.Operand.tmp 43], argTypes := #[2] }, type := 46, pos := "ref.go:31", after := #[{ on := 2, ground := Go.Ground.data }], guard := none }) rfl (fun K hK => ?_) AllReadyH.nil
  go_simp
  (with_reducible refine (rup_any k _).mono ?_); rintro e wc0 ⟨rfl, bc0⟩; have P0 := Lib.hid (own_on (own_drew O2.out) bc0)
  refine hK.out _ _ (rq_on HS bc0) (fun HS => ?_)
  try simp only [Act.put, List.setIfInBounds_toArray, List.set_cons_zero, List.set_cons_succ]
  refine wpAnyH_ready (rs := [7]) (by kernel_rfl) (by simp) ?_
  refine AllReadyH.cons (o := { dst := some 48, op := Go.Op.call { callee := Go.Callee.value (Go.Operand.func 34), args := #[Go.Operand.tmp 47], argTypes := #[22] }, type := 46, pos := "ref.go:31", after := #[{ on := 6, ground := Go.Ground.data }, { on := 3, ground := Go.Ground.chain }], guard := none }) rfl (fun K hK => ?_) AllReadyH.nil
  go_simp
  (with_reducible refine (rcount_any r _).mono ?_); rintro e wc1 ⟨rfl, bc1⟩; have P1 := Lib.hid (own_on P0.out bc1)
  refine hK.out _ _ (rq_on HS bc1) (fun HS => ?_)
  try simp only [Act.put, List.setIfInBounds_toArray, List.set_cons_zero, List.set_cons_succ]
  refine wpAnyH_ready (rs := [10]) (by kernel_rfl) (by simp) ?_
  refine AllReadyH.cons (o := { dst := some 51, op := Go.Op.call { callee := Go.Callee.value (Go.Operand.func 34), args := #[Go.Operand.tmp 50], argTypes := #[22] }, type := 46, pos := "ref.go:31", after := #[{ on := 9, ground := Go.Ground.data }, { on := 7, ground := Go.Ground.chain }], guard := none }) rfl (fun K hK => ?_) AllReadyH.nil
  go_simp
  (with_reducible refine (rcount_any i _).mono ?_); rintro e wc2 ⟨rfl, bc2⟩; have P2 := Lib.hid (own_on P1.out bc2)
  refine hK.out _ _ (rq_on HS bc2) (fun HS => ?_)
  try simp only [Act.put, List.setIfInBounds_toArray, List.set_cons_zero, List.set_cons_succ]
  refine wpAnyH_ready (rs := [11]) (by kernel_rfl) (by simp) ?_
  refine AllReadyH.cons (o := { dst := some 52, op := Go.Op.buildSlice 48 4 #[(0, Go.Operand.tmp 44), (1, Go.Operand.tmp 45), (2, Go.Operand.tmp 48), (3, Go.Operand.tmp 51)], type := 48, pos := "ref.go:31", after := #[{ on := 3, ground := Go.Ground.data }, { on := 4, ground := Go.Ground.data }, { on := 7, ground := Go.Ground.data }, { on := 10, ground := Go.Ground.data }], guard := none }) rfl (fun K hK => ?_) AllReadyH.nil
  go_simp
  skip
  refine hK.out _ _ (rq_alloc HS _) (fun HS => ?_)
  try simp only [Act.put, List.setIfInBounds_toArray, List.set_cons_zero, List.set_cons_succ]
  refine wpAnyH_ready (rs := [12]) (by kernel_rfl) (by simp) ?_
  refine AllReadyH.cons (o := { dst := some 53, op := Go.Op.call { callee := Go.Callee.builtin Go.Builtin.append, args := #[Go.Operand.tmp 41, Go.Operand.tmp 52], argTypes := #[48, 48] }, type := 48, pos := "ref.go:31", after := #[{ on := 0, ground := Go.Ground.data }, { on := 11, ground := Go.Ground.data }, { on := 10, ground := Go.Ground.chain }], guard := none }) rfl (fun K hK => ?_) AllReadyH.nil
  refine step_append_lies _ rfl (.tmp 41) (.tmp 52) 48 rfl w.heap.size 46 i0 _ 4 40 Tryd.underlying48 HI.out.1 HI.out.2.1 HI.out.2.2.1 HI.out.2.2.2 rfl (by decide) (.slice (some ⟨w1.heap.size, 0, none⟩) 1 1) 1 ([kText ⟨#[98]⟩].flatMap KPart.cells) rfl (P2.out.alloc _) ⟨wc2.heap.size, 0, none⟩ 4 4 ([⟨105, k, 0, ⟨#[]⟩⟩, ⟨105, p, 0, ⟨#[]⟩⟩, ⟨117, 0, r, ⟨#[]⟩⟩, ⟨117, 0, i, ⟨#[]⟩⟩].flatMap KPart.cells) rfl rfl (World.news_of_block (heap_alloc_new wc2 (.cells #[.int .u8 105, .int .i64 k, .int .u64 0, .string ⟨#[]⟩, .int .u8 105, .int .i64 p, .int .u64 0, .string ⟨#[]⟩, .int .u8 117, .int .i64 0, .int .u64 r, .string ⟨#[]⟩, .int .u8 117, .int .i64 0, .int .u64 i, .string ⟨#[]⟩] 46))) (cells_many _) (by omega) (by unfold maxLen; omega) (by omega) (by have := HS.rb.below.size; simpa using this) (wc2.heap.size + 1) (by simp) ?_
  intro g8 cap8 w8 hown8 hgrow8 hwhere8 hlt8
  have HE := Lib.hid (And.intro hown8 hgrow8)
  clear hown8 hwhere8 hlt8
  refine hK.out _ _ (rq_grow HS hne4 (P2.out.alloc _) hgrow8) (fun HS => ?_)
  try simp only [Act.put, List.setIfInBounds_toArray, List.set_cons_zero, List.set_cons_succ]
  refine wpAnyH_take (S := (fun wx => RQ w ⟨⟨#[98]⟩, a, i, k, p, r, t, n⟩ w2.heap.size ⟨105, p, 0, ⟨#[]⟩⟩ wx)) (i := 13) (oi := { dst := some 3, op := Go.Op.assign (Go.Operand.tmp 53), type := 48, pos := "ref.go:31", after := #[{ on := 12, ground := Go.Ground.data }, { on := 12, ground := Go.Ground.chain }, { on := 0, ground := Go.Ground.phase }, { on := 1, ground := Go.Ground.phase }, { on := 2, ground := Go.Ground.phase }, { on := 3, ground := Go.Ground.phase }, { on := 4, ground := Go.Ground.phase }, { on := 5, ground := Go.Ground.phase }, { on := 6, ground := Go.Ground.phase }, { on := 7, ground := Go.Ground.phase }, { on := 8, ground := Go.Ground.phase }, { on := 9, ground := Go.Ground.phase }, { on := 10, ground := Go.Ground.phase }, { on := 11, ground := Go.Ground.phase }, { on := 12, ground := Go.Ground.phase }], guard := none }) (v := ?vz13) rfl (by kernel_rfl) (by kernel_rfl) (by kernel_rfl) (fun _ _ _ h => h) (Or.inl ⟨by rfl, ?yz13⟩) HS ?rz13
  case yz13 => (intro wx hSw; obtain ⟨c0, c1, c2, c3, c4, c5, c6, c7⟩ := rb_cells hSw.rb; obtain ⟨⟨e0, e1, e2, e3⟩, _⟩ := rcells4 hSw.pb; go_simp; first | done | with_reducible rfl | (intro hh; omega) | skip)
  try simp only [Act.put, List.setIfInBounds_toArray, List.set_cons_zero, List.set_cons_succ]
  refine wpAnyH_done (by kernel_rfl) ?_ _
  refine NoPanic.normal ?_
  go_wp2
  go_ret
  exact ⟨⟨_, rfl, HE.out.1⟩, HS.rb.below⟩
set_option maxRecDepth 100000 in
set_option maxHeartbeats 4000000 in
theorem rrow_b_buy {w : World} (a i : Nat) (p : Int) (r t : Nat) (n : ByteArray) :
    Calls Tryd.prog 21 #[.agg #[.string ⟨#[98]⟩, .int .u64 a, .int .u64 i, .int .i64 1, .int .i64 p, .int .u64 r, .int .u64 t, .string n]] w (RwPost w [kText ⟨#[98]⟩, kUp 1, kDown p, kCount r, kCount i]) := by
  obtain ⟨i0, hi, hz0, hz1, hz2⟩ := info_parts infoRPart
  have HI := Lib.hid (And.intro hi (And.intro hz0 (And.intro hz1 hz2)))
  clear hi hz0 hz1 hz2
  have X0 := rb_new w ⟨⟨#[98]⟩, a, i, 1, p, r, t, n⟩
  go_enter Tryd.func21, Tryd.ntmps21
  go_wp2_with (first
    | (go_at_call 16; (with_reducible refine (rtext_any _ _).mono ?_); rintro e w1 ⟨rfl, b1⟩; have X1 := rb_alloc (rb_on X0 b1) (.cells #[.int .u8 116, .int .i64 0, .int .u64 0, .string ⟨#[98]⟩] 46); obtain ⟨c0, c1, c2, c3, c4, c5, c6, c7⟩ := rb_cells X1; have hw1 := (rb_on X0 b1).below.size; have O1 := Lib.hid (rown_one hw1 ⟨#[98]⟩))
    | (go_at_call 35; (with_reducible refine (rup_any p _).mono ?_); rintro e w2 ⟨rfl, b2⟩; have P2 := Lib.hid (own_on O1.out b2); have X2 := rb_alloc (rb_on X1 b2) (.cells #[.int .u8 105, .int .i64 p, .int .u64 0, .string ⟨#[]⟩] 46); obtain ⟨d0, d1, d2, d3, d4, d5, d6, d7⟩ := rb_cells X2; have hw2 := (rb_on X1 b2).below.size; have hs2 := b2.size)
    | (go_at_call 36; (with_reducible refine (rdown_any p _).mono ?_); rintro e w3 ⟨rfl, b3⟩; have P3 := Lib.hid (own_on (P2.out.alloc _) b3); have X3 := rb_on X2 b3; have hw3 := X3.below.size; have H3 := (b3.block w2.heap.size (by simp)).trans (heap_alloc_new w2 _); obtain ⟨⟨g0, g1, g2, g3⟩, g4⟩ := rcells4 H3; have f0 := g4 0; have f1 := g4 1; have f2 := g4 2; have f3 := g4 3))
  have hs2' : w1.heap.size + 1 ≤ w2.heap.size := by simpa using hs2
  have hne4 : (Value.slice (some ⟨w1.heap.size, 0, none⟩) 1 1).ownBlock ≠ some w2.heap.size := fun e => by
    have h1 : w1.heap.size = w2.heap.size := by simpa [Value.ownBlock] using e
    omega
  have Q3 : RQ w ⟨⟨#[98]⟩, a, i, 1, p, r, t, n⟩ w2.heap.size ⟨100, p, 0, ⟨#[]⟩⟩ ((((w3.setCell ⟨w2.heap.size, 0, none⟩ (.int .u8 100)).setCell ⟨w2.heap.size, 1, none⟩ (.int .i64 p)).setCell ⟨w2.heap.size, 2, none⟩ (.int .u64 0)).setCell ⟨w2.heap.size, 3, none⟩ (.string ⟨#[]⟩)) :=
    ⟨rb_four X3 (by omega) _ _ _ _, four_set H3 rfl _ _ _ _⟩
  have O3 := Lib.hid (P3.out.kept (four_grown w3 w2.heap.size (.int .u8 100) (.int .i64 p) (.int .u64 0) (.string ⟨#[]⟩)) (.inr hne4))
  refine wp_region_noPanic ?_
  refine wp_region_held_drew (S := (fun wx => RQ w ⟨⟨#[98]⟩, a, i, 1, p, r, t, n⟩ w2.heap.size ⟨100, p, 0, ⟨#[]⟩⟩ wx)) (by kernel_rfl) (rq_drew Q3) (fun HS => ?_)
  refine wpAnyH_take (S := (fun wx => RQ w ⟨⟨#[98]⟩, a, i, 1, p, r, t, n⟩ w2.heap.size ⟨100, p, 0, ⟨#[]⟩⟩ wx)) (i := 0) (oi := { dst := some 41, op := Go.Op.move (Go.Operand.tmp 3), type := 48, pos := "ref.go:31", after := #[], guard := none }) (v := ?vz0) rfl (by kernel_rfl) (by kernel_rfl) (by kernel_rfl) (fun _ _ _ h => h) (Or.inl ⟨by rfl, ?yz0⟩) HS ?rz0
  case yz0 => (intro wx hSw; obtain ⟨c0, c1, c2, c3, c4, c5, c6, c7⟩ := rb_cells hSw.rb; obtain ⟨⟨e0, e1, e2, e3⟩, _⟩ := rcells4 hSw.pb; go_simp; first | done | with_reducible rfl | (intro hh; omega) | skip)
  try simp only [Act.put, List.setIfInBounds_toArray, List.set_cons_zero, List.set_cons_succ]
  refine wpAnyH_take (S := (fun wx => RQ w ⟨⟨#[98]⟩, a, i, 1, p, r, t, n⟩ w2.heap.size ⟨100, p, 0, ⟨#[]⟩⟩ wx)) (i := 1) (oi := { dst := some 42, op := Go.Op.fieldAddr 26 (Go.Operand.tmp 1) 3, type := 0, pos := "ref.go:31", after := #[], guard := none }) (v := ?vz1) rfl (by kernel_rfl) (by kernel_rfl) (by kernel_rfl) (fun _ _ _ h => h) (Or.inl ⟨by rfl, ?yz1⟩) HS ?rz1
  case yz1 => (intro wx hSw; obtain ⟨c0, c1, c2, c3, c4, c5, c6, c7⟩ := rb_cells hSw.rb; obtain ⟨⟨e0, e1, e2, e3⟩, _⟩ := rcells4 hSw.pb; go_simp; first | done | with_reducible rfl | (intro hh; omega) | skip)
  try simp only [Act.put, List.setIfInBounds_toArray, List.set_cons_zero, List.set_cons_succ]
  refine wpAnyH_take (S := (fun wx => RQ w ⟨⟨#[98]⟩, a, i, 1, p, r, t, n⟩ w2.heap.size ⟨100, p, 0, ⟨#[]⟩⟩ wx)) (i := 2) (oi := { dst := some 43, op := Go.Op.load 3 (Go.Operand.tmp 42), type := 3, pos := "ref.go:31", after := #[{ on := 1, ground := Go.Ground.data }], guard := none }) (v := ?vz2) rfl (by kernel_rfl) (by kernel_rfl) (by kernel_rfl) (fun _ _ _ h => h) (Or.inl ⟨by rfl, ?yz2⟩) HS ?rz2
  case yz2 => (intro wx hSw; obtain ⟨c0, c1, c2, c3, c4, c5, c6, c7⟩ := rb_cells hSw.rb; obtain ⟨⟨e0, e1, e2, e3⟩, _⟩ := rcells4 hSw.pb; go_simp; first | done | with_reducible rfl | (intro hh; omega) | skip)
  try simp only [Act.put, List.setIfInBounds_toArray, List.set_cons_zero, List.set_cons_succ]
  refine wpAnyH_take (S := (fun wx => RQ w ⟨⟨#[98]⟩, a, i, 1, p, r, t, n⟩ w2.heap.size ⟨100, p, 0, ⟨#[]⟩⟩ wx)) (i := 4) (oi := { dst := some 45, op := Go.Op.load 46 (Go.Operand.tmp 4), type := 46, pos := "ref.go:31", after := #[], guard := none }) (v := ?vz4) rfl (by kernel_rfl) (by kernel_rfl) (by kernel_rfl) (fun _ _ _ h => h) (Or.inl ⟨by rfl, ?yz4⟩) HS ?rz4
  case yz4 => (intro wx hSw; obtain ⟨c0, c1, c2, c3, c4, c5, c6, c7⟩ := rb_cells hSw.rb; obtain ⟨⟨e0, e1, e2, e3⟩, _⟩ := rcells4 hSw.pb; go_simp; first | done | with_reducible rfl | (intro hh; omega) | skip)
  try simp only [Act.put, List.setIfInBounds_toArray, List.set_cons_zero, List.set_cons_succ]
  refine wpAnyH_take (S := (fun wx => RQ w ⟨⟨#[98]⟩, a, i, 1, p, r, t, n⟩ w2.heap.size ⟨100, p, 0, ⟨#[]⟩⟩ wx)) (i := 5) (oi := { dst := some 46, op := Go.Op.fieldAddr 26 (Go.Operand.tmp 1) 5, type := 0, pos := "ref.go:31", after := #[], guard := none }) (v := ?vz5) rfl (by kernel_rfl) (by kernel_rfl) (by kernel_rfl) (fun _ _ _ h => h) (Or.inl ⟨by rfl, ?yz5⟩) HS ?rz5
  case yz5 => (intro wx hSw; obtain ⟨c0, c1, c2, c3, c4, c5, c6, c7⟩ := rb_cells hSw.rb; obtain ⟨⟨e0, e1, e2, e3⟩, _⟩ := rcells4 hSw.pb; go_simp; first | done | with_reducible rfl | (intro hh; omega) | skip)
  try simp only [Act.put, List.setIfInBounds_toArray, List.set_cons_zero, List.set_cons_succ]
  refine wpAnyH_take (S := (fun wx => RQ w ⟨⟨#[98]⟩, a, i, 1, p, r, t, n⟩ w2.heap.size ⟨100, p, 0, ⟨#[]⟩⟩ wx)) (i := 6) (oi := { dst := some 47, op := Go.Op.load 22 (Go.Operand.tmp 46), type := 22, pos := "ref.go:31", after := #[{ on := 5, ground := Go.Ground.data }], guard := none }) (v := ?vz6) rfl (by kernel_rfl) (by kernel_rfl) (by kernel_rfl) (fun _ _ _ h => h) (Or.inl ⟨by rfl, ?yz6⟩) HS ?rz6
  case yz6 => (intro wx hSw; obtain ⟨c0, c1, c2, c3, c4, c5, c6, c7⟩ := rb_cells hSw.rb; obtain ⟨⟨e0, e1, e2, e3⟩, _⟩ := rcells4 hSw.pb; go_simp; first | done | with_reducible rfl | (intro hh; omega) | skip)
  try simp only [Act.put, List.setIfInBounds_toArray, List.set_cons_zero, List.set_cons_succ]
  refine wpAnyH_take (S := (fun wx => RQ w ⟨⟨#[98]⟩, a, i, 1, p, r, t, n⟩ w2.heap.size ⟨100, p, 0, ⟨#[]⟩⟩ wx)) (i := 8) (oi := { dst := some 49, op := Go.Op.fieldAddr 26 (Go.Operand.tmp 1) 2, type := 0, pos := "ref.go:31", after := #[], guard := none }) (v := ?vz8) rfl (by kernel_rfl) (by kernel_rfl) (by kernel_rfl) (fun _ _ _ h => h) (Or.inl ⟨by rfl, ?yz8⟩) HS ?rz8
  case yz8 => (intro wx hSw; obtain ⟨c0, c1, c2, c3, c4, c5, c6, c7⟩ := rb_cells hSw.rb; obtain ⟨⟨e0, e1, e2, e3⟩, _⟩ := rcells4 hSw.pb; go_simp; first | done | with_reducible rfl | (intro hh; omega) | skip)
  try simp only [Act.put, List.setIfInBounds_toArray, List.set_cons_zero, List.set_cons_succ]
  refine wpAnyH_take (S := (fun wx => RQ w ⟨⟨#[98]⟩, a, i, 1, p, r, t, n⟩ w2.heap.size ⟨100, p, 0, ⟨#[]⟩⟩ wx)) (i := 9) (oi := { dst := some 50, op := Go.Op.load 22 (Go.Operand.tmp 49), type := 22, pos := "ref.go:31", after := #[{ on := 8, ground := Go.Ground.data }], guard := none }) (v := ?vz9) rfl (by kernel_rfl) (by kernel_rfl) (by kernel_rfl) (fun _ _ _ h => h) (Or.inl ⟨by rfl, ?yz9⟩) HS ?rz9
  case yz9 => (intro wx hSw; obtain ⟨c0, c1, c2, c3, c4, c5, c6, c7⟩ := rb_cells hSw.rb; obtain ⟨⟨e0, e1, e2, e3⟩, _⟩ := rcells4 hSw.pb; go_simp; first | done | with_reducible rfl | (intro hh; omega) | skip)
  try simp only [Act.put, List.setIfInBounds_toArray, List.set_cons_zero, List.set_cons_succ]
  refine wpAnyH_ready (rs := [3]) (by kernel_rfl) (by simp) ?_
  refine AllReadyH.cons (o := { dst := some 44, op := Go.Op.call { callee := Go.Callee.value (Go.Operand.func 35), args := #[Go.Operand.tmp 43], argTypes := #[2] }, type := 46, pos := "ref.go:31", after := #[{ on := 2, ground := Go.Ground.data }], guard := none }) rfl (fun K hK => ?_) AllReadyH.nil
  go_simp
  (with_reducible refine (rup_any 1 _).mono ?_); rintro e wc0 ⟨rfl, bc0⟩; have P0 := Lib.hid (own_on (own_drew O3.out) bc0)
  refine hK.out _ _ (rq_on HS bc0) (fun HS => ?_)
  try simp only [Act.put, List.setIfInBounds_toArray, List.set_cons_zero, List.set_cons_succ]
  refine wpAnyH_ready (rs := [7]) (by kernel_rfl) (by simp) ?_
  refine AllReadyH.cons (o := { dst := some 48, op := Go.Op.call { callee := Go.Callee.value (Go.Operand.func 34), args := #[Go.Operand.tmp 47], argTypes := #[22] }, type := 46, pos := "ref.go:31", after := #[{ on := 6, ground := Go.Ground.data }, { on := 3, ground := Go.Ground.chain }], guard := none }) rfl (fun K hK => ?_) AllReadyH.nil
  go_simp
  (with_reducible refine (rcount_any r _).mono ?_); rintro e wc1 ⟨rfl, bc1⟩; have P1 := Lib.hid (own_on P0.out bc1)
  refine hK.out _ _ (rq_on HS bc1) (fun HS => ?_)
  try simp only [Act.put, List.setIfInBounds_toArray, List.set_cons_zero, List.set_cons_succ]
  refine wpAnyH_ready (rs := [10]) (by kernel_rfl) (by simp) ?_
  refine AllReadyH.cons (o := { dst := some 51, op := Go.Op.call { callee := Go.Callee.value (Go.Operand.func 34), args := #[Go.Operand.tmp 50], argTypes := #[22] }, type := 46, pos := "ref.go:31", after := #[{ on := 9, ground := Go.Ground.data }, { on := 7, ground := Go.Ground.chain }], guard := none }) rfl (fun K hK => ?_) AllReadyH.nil
  go_simp
  (with_reducible refine (rcount_any i _).mono ?_); rintro e wc2 ⟨rfl, bc2⟩; have P2 := Lib.hid (own_on P1.out bc2)
  refine hK.out _ _ (rq_on HS bc2) (fun HS => ?_)
  try simp only [Act.put, List.setIfInBounds_toArray, List.set_cons_zero, List.set_cons_succ]
  refine wpAnyH_ready (rs := [11]) (by kernel_rfl) (by simp) ?_
  refine AllReadyH.cons (o := { dst := some 52, op := Go.Op.buildSlice 48 4 #[(0, Go.Operand.tmp 44), (1, Go.Operand.tmp 45), (2, Go.Operand.tmp 48), (3, Go.Operand.tmp 51)], type := 48, pos := "ref.go:31", after := #[{ on := 3, ground := Go.Ground.data }, { on := 4, ground := Go.Ground.data }, { on := 7, ground := Go.Ground.data }, { on := 10, ground := Go.Ground.data }], guard := none }) rfl (fun K hK => ?_) AllReadyH.nil
  go_simp
  skip
  refine hK.out _ _ (rq_alloc HS _) (fun HS => ?_)
  try simp only [Act.put, List.setIfInBounds_toArray, List.set_cons_zero, List.set_cons_succ]
  refine wpAnyH_ready (rs := [12]) (by kernel_rfl) (by simp) ?_
  refine AllReadyH.cons (o := { dst := some 53, op := Go.Op.call { callee := Go.Callee.builtin Go.Builtin.append, args := #[Go.Operand.tmp 41, Go.Operand.tmp 52], argTypes := #[48, 48] }, type := 48, pos := "ref.go:31", after := #[{ on := 0, ground := Go.Ground.data }, { on := 11, ground := Go.Ground.data }, { on := 10, ground := Go.Ground.chain }], guard := none }) rfl (fun K hK => ?_) AllReadyH.nil
  refine step_append_lies _ rfl (.tmp 41) (.tmp 52) 48 rfl w.heap.size 46 i0 _ 4 40 Tryd.underlying48 HI.out.1 HI.out.2.1 HI.out.2.2.1 HI.out.2.2.2 rfl (by decide) (.slice (some ⟨w1.heap.size, 0, none⟩) 1 1) 1 ([kText ⟨#[98]⟩].flatMap KPart.cells) rfl (P2.out.alloc _) ⟨wc2.heap.size, 0, none⟩ 4 4 ([⟨105, 1, 0, ⟨#[]⟩⟩, ⟨100, p, 0, ⟨#[]⟩⟩, ⟨117, 0, r, ⟨#[]⟩⟩, ⟨117, 0, i, ⟨#[]⟩⟩].flatMap KPart.cells) rfl rfl (World.news_of_block (heap_alloc_new wc2 (.cells #[.int .u8 105, .int .i64 1, .int .u64 0, .string ⟨#[]⟩, .int .u8 100, .int .i64 p, .int .u64 0, .string ⟨#[]⟩, .int .u8 117, .int .i64 0, .int .u64 r, .string ⟨#[]⟩, .int .u8 117, .int .i64 0, .int .u64 i, .string ⟨#[]⟩] 46))) (cells_many _) (by omega) (by unfold maxLen; omega) (by omega) (by have := HS.rb.below.size; simpa using this) (wc2.heap.size + 1) (by simp) ?_
  intro g8 cap8 w8 hown8 hgrow8 hwhere8 hlt8
  have HE := Lib.hid (And.intro hown8 hgrow8)
  clear hown8 hwhere8 hlt8
  refine hK.out _ _ (rq_grow HS hne4 (P2.out.alloc _) hgrow8) (fun HS => ?_)
  try simp only [Act.put, List.setIfInBounds_toArray, List.set_cons_zero, List.set_cons_succ]
  refine wpAnyH_take (S := (fun wx => RQ w ⟨⟨#[98]⟩, a, i, 1, p, r, t, n⟩ w2.heap.size ⟨100, p, 0, ⟨#[]⟩⟩ wx)) (i := 13) (oi := { dst := some 3, op := Go.Op.assign (Go.Operand.tmp 53), type := 48, pos := "ref.go:31", after := #[{ on := 12, ground := Go.Ground.data }, { on := 12, ground := Go.Ground.chain }, { on := 0, ground := Go.Ground.phase }, { on := 1, ground := Go.Ground.phase }, { on := 2, ground := Go.Ground.phase }, { on := 3, ground := Go.Ground.phase }, { on := 4, ground := Go.Ground.phase }, { on := 5, ground := Go.Ground.phase }, { on := 6, ground := Go.Ground.phase }, { on := 7, ground := Go.Ground.phase }, { on := 8, ground := Go.Ground.phase }, { on := 9, ground := Go.Ground.phase }, { on := 10, ground := Go.Ground.phase }, { on := 11, ground := Go.Ground.phase }, { on := 12, ground := Go.Ground.phase }], guard := none }) (v := ?vz13) rfl (by kernel_rfl) (by kernel_rfl) (by kernel_rfl) (fun _ _ _ h => h) (Or.inl ⟨by rfl, ?yz13⟩) HS ?rz13
  case yz13 => (intro wx hSw; obtain ⟨c0, c1, c2, c3, c4, c5, c6, c7⟩ := rb_cells hSw.rb; obtain ⟨⟨e0, e1, e2, e3⟩, _⟩ := rcells4 hSw.pb; go_simp; first | done | with_reducible rfl | (intro hh; omega) | skip)
  try simp only [Act.put, List.setIfInBounds_toArray, List.set_cons_zero, List.set_cons_succ]
  refine wpAnyH_done (by kernel_rfl) ?_ _
  refine NoPanic.normal ?_
  go_wp2
  go_ret
  exact ⟨⟨_, rfl, HE.out.1⟩, HS.rb.below⟩
end Go.Proofs.YtelbhegkaihjhaaDoor
