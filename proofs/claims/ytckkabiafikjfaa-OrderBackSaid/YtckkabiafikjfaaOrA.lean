/-
  The Go text of orders, walked: isState, Check, Needs, Other. Conditions: as each theorem states.
-/
import Derived.Test.YtckkabiafikjfaaOrMath
import Derived.BigRegion
namespace Go.Proofs.Ytckkabiafikjfaa.Odx
open Go.RowKit
open Go.Proofs.Ytckkabiafikjfaa
open Am

theorem state_any (s l : Int) (w : World) : Calls Try.prog 23 #[.int .i64 s, .int .i64 l] w fun e w' => e = .returned (.bool (stOk s l)) ∧ Below w.heap.size w w' := by
  by_cases h1 : s = 1
  · subst h1
    go_enter Try.func23, Try.ntmps23
    go_wp2
    go_ret
    exact ⟨rfl, Below.refl _ _⟩
  · have k1 : (s == 1) = false := by simpa using h1
    by_cases h2 : s = 2
    · subst h2
      go_enter Try.func23, Try.ntmps23
      go_wp2
      go_ret
      exact ⟨ret_bool (by simp [stOk]; rfl), Below.refl _ _⟩
    · have k2 : (s == 2) = false := by simpa using h2
      have e : stOk s l = decide (s = 3 ∨ s = 4) := by unfold stOk; rw [if_neg h1, if_neg h2]
      rw [e]
      go_enter Try.func23, Try.ntmps23
      go_wp2
      all_goals
        go_ret
        exact ⟨ret_bool (by clear e; first | rfl | (simp_all; done) | (rw [Bool.eq_iff_iff]; simp_all)), Below.refl _ _⟩
theorem alloc_below (w : World) (o : Obj) : Below w.heap.size w (w.alloc o) := (Below.refl _ _).alloc (Nat.le_refl _) _
theorem alloc_on {w w2 : World} {o : Obj} (h : Below (w.heap.size + 1) (w.alloc o) w2) : Below w.heap.size w w2 := (alloc_below w o).trans (h.mono (Nat.le_succ _))
theorem draw_below {B : Nat} {a w : World} (h : Below B a w) : Below B a w.drew := ⟨h.os, h.tape, h.output, h.size, h.block⟩
def Ans (w : World) (v : Value) (e : Ending) (w' : World) : Prop := e = .returned v ∧ Below w.heap.size w w'
def Box (w : World) (b : Nat) (o : Odr) : Prop := w.heap[b]? = some (.cells o.cells 24 (0, 0))
theorem box_new (w : World) (o : Odr) : Box (w.alloc (.cells o.cells 24)) w.heap.size o := heap_alloc_new w _
theorem box_kept {w w2 : World} {b : Nat} {o : Odr} (h : Box w b o) (hb : Below w.heap.size w w2) : Box w2 b o := (hb.block b (Array.getElem?_eq_some_iff.1 h).1).trans h
theorem cell_at {w : World} {g : Nat} {c : Array Value} {t : TypeId} (h : w.heap[g]? = some (.cells c t (0, 0))) (j : Nat) (v : Value) (hj : c[j]? = some v) :
    w.cell? ⟨g, j, none⟩ = some v := by unfold World.cell?; rw [h]; simp [hj]
theorem box_cells {w : World} {b : Nat} {o : Odr} (h : Box w b o) :
    w.cell? ⟨b, 0, none⟩ = some (.int .u64 o.id) ∧ w.cell? ⟨b, 1, none⟩ = some (.int .u64 o.account) ∧ w.cell? ⟨b, 2, none⟩ = some (.int .i64 o.side) ∧ w.cell? ⟨b, 3, none⟩ = some (.int .i64 o.price) ∧ w.cell? ⟨b, 4, none⟩ = some (.int .i64 o.size) ∧
    w.cell? ⟨b, 5, none⟩ = some (.int .i64 o.left) ∧ w.cell? ⟨b, 6, none⟩ = some (.int .u64 o.rank) ∧ w.cell? ⟨b, 7, none⟩ = some (.int .u64 o.expiry) ∧ w.cell? ⟨b, 8, none⟩ = some (.int .i64 o.state) :=
  ⟨cell_at h 0 _ rfl, cell_at h 1 _ rfl, cell_at h 2 _ rfl, cell_at h 3 _ rfl, cell_at h 4 _ rfl, cell_at h 5 _ rfl, cell_at h 6 _ rfl, cell_at h 7 _ rfl, cell_at h 8 _ rfl⟩
theorem box_on {w w2 : World} {o : Odr} (hb : Below (w.alloc (.cells o.cells 24)).heap.size (w.alloc (.cells o.cells 24)) w2) : Box w2 w.heap.size o := box_kept (box_new w o) hb
theorem on_alloc {w w2 : World} {o : Obj} (h : Below (w.alloc o).heap.size (w.alloc o) w2) : Below w.heap.size w w2 := (alloc_below w o).trans (h.mono (by simp))
set_option maxHeartbeats 1000000 in
theorem check_any (o : Odr) (w : World) : Calls Try.prog 8 #[.agg o.cells] w (Ans w (.int .i64 (chkO o))) := by
  obtain ⟨id, account, side, price, size, left, rank, expiry, state⟩ := o
  have cR := right_any price size
  have cS := Lib.hid (state_any state left)
  unfold Odr.cells chkO
  simp only
  by_cases h1 : account = 0 ∨ id = 0
  · rw [if_pos h1]
    clear cR cS
    by_cases h0 : account = 0
    · subst h0
      clear h1
      go_enter Try.func8, Try.ntmps8
      go_wp2
      go_ret
      exact ⟨rfl, alloc_below _ _⟩
    · obtain rfl : id = 0 := by omega
      have k1 : ((account : Int) == 0) = false := by simp; omega
      clear h1 h0
      go_enter Try.func8, Try.ntmps8
      go_wp2
      go_ret
      exact ⟨rfl, alloc_below _ _⟩
  rw [if_neg h1]
  have k1 : ((account : Int) == 0) = false := by simp; omega
  have k2 : ((id : Int) == 0) = false := by simp; omega
  clear h1
  by_cases h2 : side = 1 ∨ side = 2
  · rw [if_neg (fun h => h h2)]
    by_cases h3 : rightI price size = 0
    · rw [if_neg (fun h => h h3)]
      rw [h3] at cR
      replace cR := Lib.hid cR
      clear h3
      by_cases h4 : left < 0
      · rw [if_pos (.inl h4)]
        rcases h2 with rfl | rfl
        all_goals
          go_enter Try.func8, Try.ntmps8
          go_wp2_with (first
            | (go_at_call 22; (with_reducible refine (cR.out _).mono ?_); rintro e w1 ⟨rfl, hb⟩; obtain ⟨x0, x1, x2, x3, x4, x5, x6, x7, x8⟩ := box_cells (box_on (o := ⟨_, _, _, _, _, _, _, _, _⟩) hb); simp only at x0 x1 x2 x3 x4 x5 x6 x7 x8)
            | (go_at_call 23; (with_reducible refine (cS.out _).mono ?_); rintro e w2 ⟨rfl, hb2⟩))
          go_ret
          exact ⟨rfl, on_alloc hb⟩
      · by_cases h5 : size < left
        · rw [if_pos (.inr h5)]
          rcases h2 with rfl | rfl
          all_goals
            go_enter Try.func8, Try.ntmps8
            go_wp2_with (first
              | (go_at_call 22; (with_reducible refine (cR.out _).mono ?_); rintro e w1 ⟨rfl, hb⟩; obtain ⟨x0, x1, x2, x3, x4, x5, x6, x7, x8⟩ := box_cells (box_on (o := ⟨_, _, _, _, _, _, _, _, _⟩) hb); simp only at x0 x1 x2 x3 x4 x5 x6 x7 x8)
              | (go_at_call 23; (with_reducible refine (cS.out _).mono ?_); rintro e w2 ⟨rfl, hb2⟩))
            go_ret
            exact ⟨rfl, on_alloc hb⟩
        · rw [if_neg (by omega)]
          cases hst : stOk state left
          all_goals
            rw [hst] at cS
            rcases h2 with rfl | rfl
            all_goals
              go_enter Try.func8, Try.ntmps8
              go_wp2_with (first
                | (go_at_call 22; (with_reducible refine (cR.out _).mono ?_); rintro e w1 ⟨rfl, hb⟩; obtain ⟨x0, x1, x2, x3, x4, x5, x6, x7, x8⟩ := box_cells (box_on (o := ⟨_, _, _, _, _, _, _, _, _⟩) hb); simp only at x0 x1 x2 x3 x4 x5 x6 x7 x8)
                | (go_at_call 23; (with_reducible refine (cS.out _).mono ?_); rintro e w2 ⟨rfl, hb2⟩))
              go_ret
              exact ⟨rfl, on_alloc (hb.trans (hb2.mono hb.size))⟩
    · rw [if_pos h3]
      have k3 : (rightI price size != 0) = true := by simpa using h3
      generalize rightI price size = y at *
      replace cR := Lib.hid cR
      rcases h2 with rfl | rfl
      all_goals
        go_enter Try.func8, Try.ntmps8
        go_wp2_with (first
          | (go_at_call 22; (with_reducible refine (cR.out _).mono ?_); rintro e w1 ⟨rfl, hb⟩; obtain ⟨x0, x1, x2, x3, x4, x5, x6, x7, x8⟩ := box_cells (box_on (o := ⟨_, _, _, _, _, _, _, _, _⟩) hb); simp only at x0 x1 x2 x3 x4 x5 x6 x7 x8)
          | (go_at_call 23; (with_reducible refine (cS.out _).mono ?_); rintro e w2 ⟨rfl, hb2⟩))
        go_ret
        exact ⟨rfl, on_alloc hb⟩
  · rw [if_pos h2]
    have k3 : (side != 1) = true := by simp; omega
    have k4 : (side != 2) = true := by simp; omega
    clear cR cS h2
    go_enter Try.func8, Try.ntmps8
    go_wp2
    go_ret
    exact ⟨rfl, alloc_below _ _⟩
/-- What an order holds: of which thing, how much, with which error. -/
def needI (o : Odr) : Int × Int × Int := if o.side = 1 then (1, cov (o.price * o.left), cer (o.price * o.left)) else (2, o.left, 0)
theorem needs_any (o : Odr) (hp : rg o.price) (hl : rg o.left) (w : World) :
    Calls Try.prog 12 #[.agg o.cells] w (Ans w (.tuple #[.int .i64 (needI o).1, .int .i64 (needI o).2.1, .int .i64 (needI o).2.2])) := by
  obtain ⟨id, account, side, price, size, left, rank, expiry, state⟩ := o
  have cC := Lib.hid (cost_any price left hp hl)
  unfold needI Odr.cells
  simp only
  clear hp hl
  by_cases h : side = 1
  · rw [if_pos h]
    subst h
    go_enter Try.func12, Try.ntmps12
    go_wp2_with (go_at_call 25; (with_reducible refine (cC.out _).mono ?_); rintro e w1 ⟨rfl, hb⟩)
    go_ret3
    exact ⟨rfl, on_alloc hb⟩
  · rw [if_neg h]
    have k : (side != 1) = true := by simpa using h
    clear cC
    go_enter Try.func12, Try.ntmps12
    go_wp2
    go_region
    go_wp2
    go_ret3
    exact ⟨rfl, draw_below (alloc_below _ _)⟩
def othI (s : Int) : Int := if s = 1 then 2 else 1
theorem other_any (s : Int) (w : World) : Calls Try.prog 13 #[.int .i64 s] w (Ans w (.int .i64 (othI s))) := by
  by_cases h : s = 1
  · subst h
    go_enter Try.func13, Try.ntmps13
    go_wp2
    go_ret
    exact ⟨rfl, Below.refl _ _⟩
  · have e : othI s = 1 := if_neg h
    have k : (s == 1) = false := by simpa using h
    rw [e]
    go_enter Try.func13, Try.ntmps13
    go_wp2
    go_ret
    exact ⟨rfl, Below.refl _ _⟩
end Go.Proofs.Ytckkabiafikjfaa.Odx
