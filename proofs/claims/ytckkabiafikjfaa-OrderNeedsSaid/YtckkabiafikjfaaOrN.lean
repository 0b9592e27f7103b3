/-
  The law OrderNeeds, walked. Conditions: as each theorem states.
-/
import Derived.Test.YtckkabiafikjfaaOrC
namespace Go.Proofs.Ytckkabiafikjfaa.Odx
open Go.RowKit
open Go.Proofs.Ytckkabiafikjfaa
open Am Vi

theorem chk_facts {o : Odr} (h : chkO o = 0) : (o.side = 1 ∨ o.side = 2) ∧ 1 ≤ o.price ∧ o.price ≤ 1099511627776 ∧ 1 ≤ o.size ∧ o.size ≤ 1099511627776 ∧ 0 ≤ o.left ∧ o.left ≤ o.size := by
  unfold chkO rightI at h
  by_cases h1 : o.account = 0 ∨ o.id = 0
  · rw [if_pos h1] at h; omega
  rw [if_neg h1] at h
  by_cases h2 : o.side = 1 ∨ o.side = 2
  · rw [if_neg (fun k => k h2)] at h
    by_cases h3 : o.price < 1 ∨ 1099511627776 < o.price
    · rw [if_pos h3] at h; simp at h
    rw [if_neg h3] at h
    by_cases h4 : o.size < 1 ∨ 1099511627776 < o.size
    · rw [if_pos h4] at h; simp at h
    rw [if_neg h4] at h
    by_cases h5 : o.left < 0 ∨ o.size < o.left
    · rw [if_neg (by decide), if_pos h5] at h; omega
    exact ⟨h2, by omega, by omega, by omega, by omega, by omega, by omega⟩
  · rw [if_pos h2] at h; omega
/-- the part: from 1 to one less than what is left -/
def partI (left part : Int) : Int := 1 + ((u64 part % u64 (left - 1) : Nat) : Int)
theorem partI_bd {left : Int} (part : Int) (h : 2 ≤ left) (h2 : left ≤ 1099511627776) : 1 ≤ partI left part ∧ partI left part < left := by
  unfold partI
  have e : u64 (left - 1) = (left - 1).toNat := by unfold u64; omega
  have hm : u64 part % u64 (left - 1) < u64 (left - 1) := Nat.mod_lt _ (by omega)
  omega
set_option maxHeartbeats 2000000 in
theorem needs_bad {o : Odr} (h : chkO o ≠ 0) (part : Int) (w : World) : Calls Try.prog 4 #[.agg o.cells, .int .i64 part] w fun e w' => e = .returned (.bool true) ∧ Below w.heap.size w w' := by
  have cC := Lib.hid (check_any o)
  have k : (chkO o != 0) = true := by simpa using h
  have X0 := Lib.hid (ox_new w o)
  obtain ⟨id, account, side, price, size, left, rank, expiry, state⟩ := o
  generalize chkO _ = z at *
  unfold Odr.cells at *
  simp only at *
  clear h
  go_enter Try.func4, Try.ntmps4
  go_wp2_with (first
    | (go_at_call 5; (with_reducible refine (awake20_any _).mono ?_); rintro e w1 ⟨rfl, b1⟩; have X1 := Lib.hid (ox_on X0.out b1); obtain ⟨x0, x1, x2, x3, x4, x5, x6, x7, x8⟩ := box_cells X1.out.box; simp only at x0 x1 x2 x3 x4 x5 x6 x7 x8)
    | (go_at_call 8; (with_reducible refine (cC.out _).mono ?_); rintro e w2 ⟨rfl, b2⟩))
  go_ret
  exact ⟨rfl, (ox_on X1.out b2).below⟩
set_option maxHeartbeats 2000000 in
theorem needs_few {o : Odr} (h : chkO o = 0) (hl : o.left < 2) (part : Int) (w : World) : Calls Try.prog 4 #[.agg o.cells, .int .i64 part] w fun e w' => e = .returned (.bool true) ∧ Below w.heap.size w w' := by
  have cC := check_any o
  rw [h] at cC
  replace cC := Lib.hid cC
  have X0 := Lib.hid (ox_new w o)
  obtain ⟨id, account, side, price, size, left, rank, expiry, state⟩ := o
  unfold Odr.cells at *
  simp only at *
  clear h
  go_enter Try.func4, Try.ntmps4
  go_wp2_with (first
    | (go_at_call 5; (with_reducible refine (awake20_any _).mono ?_); rintro e w1 ⟨rfl, b1⟩; have X1 := Lib.hid (ox_on X0.out b1); obtain ⟨x0, x1, x2, x3, x4, x5, x6, x7, x8⟩ := box_cells X1.out.box; simp only at x0 x1 x2 x3 x4 x5 x6 x7 x8)
    | (go_at_call 8; (with_reducible refine (cC.out _).mono ?_); rintro e w2 ⟨rfl, b2⟩; have X2 := Lib.hid (ox_on X1.out b2); obtain ⟨y0, y1, y2, y3, y4, y5, y6, y7, y8⟩ := box_cells X2.out.box; simp only at y0 y1 y2 y3 y4 y5 y6 y7 y8; clear x0 x1 x2 x3 x4 x5 x6 x7 x8))
  go_ret
  exact ⟨rfl, X2.out.below⟩
structure Tri (w : World) (o : Odr) (pa pb : Nat) (la lb : Int) (W : World) : Prop where
  a : Box W pa { o with left := la }
  b : Box W pb { o with left := lb }
  below : Below w.heap.size w W
section
variable {w w2 : World} {o : Odr} {pa pb : Nat} {la lb : Int} {W W2 : World}
theorem tri_on (h : Tri w o pa pb la lb W) (hb : Below W.heap.size W W2) : Tri w o pa pb la lb W2 := ⟨box_kept h.a hb, box_kept h.b hb, h.below.trans (hb.mono h.below.size)⟩
theorem two_new (w2 : World) (o1 o2 : Odr) : Box ((w2.alloc (.cells o1.cells 24)).alloc (.cells o2.cells 24)).drew w2.heap.size o1 ∧ Box ((w2.alloc (.cells o1.cells 24)).alloc (.cells o2.cells 24)).drew (w2.heap.size + 1) o2 := by
  constructor
  · exact box_kept (box_new w2 o1) (draw_below (alloc_below _ _))
  · have := box_new (w2.alloc (.cells o1.cells 24)) o2
    rwa [show (w2.alloc (.cells o1.cells 24)).heap.size = w2.heap.size + 1 by simp] at this
theorem two_low (h : Below w.heap.size w w2) (x y : Obj) : Below w.heap.size w ((w2.alloc x).alloc y).drew := draw_below ((h.alloc h.size x).alloc (by have := h.size; simp; omega) y)
theorem tri_A (h : Ox w o w2) : Tri w o w2.heap.size (w2.heap.size + 1) la lb ((w2.alloc (.cells { o with left := la }.cells 24)).alloc (.cells { o with left := lb }.cells 24)).drew :=
  ⟨(two_new w2 _ _).1, (two_new w2 _ _).2, two_low h.below _ _⟩
theorem tri_B (h : Ox w o w2) : Tri w o (w2.heap.size + 1) w2.heap.size la lb ((w2.alloc (.cells { o with left := lb }.cells 24)).alloc (.cells { o with left := la }.cells 24)).drew :=
  ⟨(two_new w2 _ _).2, (two_new w2 _ _).1, two_low h.below _ _⟩
end
set_option maxHeartbeats 4000000 in
set_option maxRecDepth 100000 in
theorem needs_good (id account : Nat) (side price size left : Int) (rank expiry : Nat) (state : Int) (part l1 : Int) (w : World) (th n m k : Int)
    (cC : Hid (∀ W : World, Calls Try.prog 8 #[.agg #[.int .u64 id, .int .u64 account, .int .i64 side, .int .i64 price, .int .i64 size, .int .i64 left, .int .u64 rank, .int .u64 expiry, .int .i64 state]] W (Ans W (.int .i64 0))))
    (c1 : Hid (∀ W : World, Calls Try.prog 12 #[.agg #[.int .u64 id, .int .u64 account, .int .i64 side, .int .i64 price, .int .i64 size, .int .i64 left, .int .u64 rank, .int .u64 expiry, .int .i64 state]] W (Ans W (.tuple #[.int .i64 th, .int .i64 n, .int .i64 0])))) (c2 : Hid (∀ W : World, Calls Try.prog 12 #[.agg #[.int .u64 id, .int .u64 account, .int .i64 side, .int .i64 price, .int .i64 size, .int .i64 l1, .int .u64 rank, .int .u64 expiry, .int .i64 state]] W (Ans W (.tuple #[.int .i64 th, .int .i64 m, .int .i64 0])))) (c3 : Hid (∀ W : World, Calls Try.prog 12 #[.agg #[.int .u64 id, .int .u64 account, .int .i64 side, .int .i64 price, .int .i64 size, .int .i64 (left - l1), .int .u64 rank, .int .u64 expiry, .int .i64 state]] W (Ans W (.tuple #[.int .i64 th, .int .i64 k, .int .i64 0])))) (hl : 2 ≤ left)
    (hp : wrap64 (1 + wrap64 ((IntKind.u64.wrap part).tmod (IntKind.u64.wrap (wrap64 (left - 1))))) = l1) (hq : wrap64 (left - l1) = left - l1) (hz : ¬ IntKind.u64.wrap (wrap64 (left - 1)) = 0) (hs : wrap64 (m + k) = n) (h0 : 0 < m) (h1 : m < n) :
    Calls Try.prog 4 #[.agg #[.int .u64 id, .int .u64 account, .int .i64 side, .int .i64 price, .int .i64 size, .int .i64 left, .int .u64 rank, .int .u64 expiry, .int .i64 state], .int .i64 part] w fun e w' => e = .returned (.bool true) ∧ Below w.heap.size w w' := by
  have X0 := Lib.hid (ox_new w ⟨id, account, side, price, size, left, rank, expiry, state⟩)
  unfold Odr.cells at *
  simp only at *
  have hl2 : ¬ left < 2 := by omega
  go_enter Try.func4, Try.ntmps4
  go_wp2_with (first
    | (go_at_call 5; (with_reducible refine (awake20_any _).mono ?_); rintro e w1 ⟨rfl, b1⟩; have X1 := Lib.hid (ox_on X0.out b1); obtain ⟨x0, x1, x2, x3, x4, x5, x6, x7, x8⟩ := box_cells X1.out.box; simp only at x0 x1 x2 x3 x4 x5 x6 x7 x8)
    | (go_at_call 8; (with_reducible refine (cC.out _).mono ?_); rintro e w2 ⟨rfl, b2⟩; have X2 := Lib.hid (ox_on X1.out b2); obtain ⟨y0, y1, y2, y3, y4, y5, y6, y7, y8⟩ := box_cells X2.out.box; simp only at y0 y1 y2 y3 y4 y5 y6 y7 y8; clear x0 x1 x2 x3 x4 x5 x6 x7 x8))
  have n0 : w.heap.size < w2.heap.size := (Array.getElem?_eq_some_iff.1 X2.out.box).1
  have n1 : w.heap.size < w2.heap.size + 1 := by omega
  go_region
  all_goals clear cC X0 b1 X1 b2
  all_goals go_wp2_with (first
    | (go_at_call 12; (with_reducible refine (c1.out _).mono ?_); rintro e w3 ⟨rfl, b3⟩; have T3 := Lib.hid (by first | exact tri_on (tri_A (la := l1) (lb := left - l1) X2.out) b3 | exact tri_on (tri_B (la := l1) (lb := left - l1) X2.out) b3); obtain ⟨x0, x1, x2, x3, x4, x5, x6, x7, x8⟩ := box_cells T3.out.a; simp only at x0 x1 x2 x3 x4 x5 x6 x7 x8; clear b3)
    | (go_at_call 12; (with_reducible refine (c2.out _).mono ?_); rintro e w4 ⟨rfl, b4⟩; have T4 := Lib.hid (tri_on T3.out b4); obtain ⟨z0, z1, z2, z3, z4, z5, z6, z7, z8⟩ := box_cells T4.out.b; simp only at z0 z1 z2 z3 z4 z5 z6 z7 z8; clear b4)
    | (go_at_call 12; (with_reducible refine (c3.out _).mono ?_); rintro e w5 ⟨rfl, b5⟩; have T5 := Lib.hid (tri_on T4.out b5); clear b5))
  all_goals
    go_ret
    exact ⟨ret_bool (by simp; try omega), T5.out.below⟩
set_option maxHeartbeats 4000000 in
set_option maxRecDepth 100000 in
theorem needs_over (id account : Nat) (side price size left : Int) (rank expiry : Nat) (state : Int) (part l1 : Int) (w : World) (m k e2 e3 : Int)
    (cC : Hid (∀ W : World, Calls Try.prog 8 #[.agg #[.int .u64 id, .int .u64 account, .int .i64 side, .int .i64 price, .int .i64 size, .int .i64 left, .int .u64 rank, .int .u64 expiry, .int .i64 state]] W (Ans W (.int .i64 0))))
    (c1 : Hid (∀ W : World, Calls Try.prog 12 #[.agg #[.int .u64 id, .int .u64 account, .int .i64 side, .int .i64 price, .int .i64 size, .int .i64 left, .int .u64 rank, .int .u64 expiry, .int .i64 state]] W (Ans W (.tuple #[.int .i64 1, .int .i64 0, .int .i64 24])))) (c2 : Hid (∀ W : World, Calls Try.prog 12 #[.agg #[.int .u64 id, .int .u64 account, .int .i64 side, .int .i64 price, .int .i64 size, .int .i64 l1, .int .u64 rank, .int .u64 expiry, .int .i64 state]] W (Ans W (.tuple #[.int .i64 1, .int .i64 m, .int .i64 e2])))) (c3 : Hid (∀ W : World, Calls Try.prog 12 #[.agg #[.int .u64 id, .int .u64 account, .int .i64 side, .int .i64 price, .int .i64 size, .int .i64 (left - l1), .int .u64 rank, .int .u64 expiry, .int .i64 state]] W (Ans W (.tuple #[.int .i64 1, .int .i64 k, .int .i64 e3])))) (hl : 2 ≤ left)
    (hp : wrap64 (1 + wrap64 ((IntKind.u64.wrap part).tmod (IntKind.u64.wrap (wrap64 (left - 1))))) = l1) (hq : wrap64 (left - l1) = left - l1) (hz : ¬ IntKind.u64.wrap (wrap64 (left - 1)) = 0)  :
    Calls Try.prog 4 #[.agg #[.int .u64 id, .int .u64 account, .int .i64 side, .int .i64 price, .int .i64 size, .int .i64 left, .int .u64 rank, .int .u64 expiry, .int .i64 state], .int .i64 part] w fun e w' => e = .returned (.bool true) ∧ Below w.heap.size w w' := by
  have X0 := Lib.hid (ox_new w ⟨id, account, side, price, size, left, rank, expiry, state⟩)
  unfold Odr.cells at *
  simp only at *
  have hl2 : ¬ left < 2 := by omega
  go_enter Try.func4, Try.ntmps4
  go_wp2_with (first
    | (go_at_call 5; (with_reducible refine (awake20_any _).mono ?_); rintro e w1 ⟨rfl, b1⟩; have X1 := Lib.hid (ox_on X0.out b1); obtain ⟨x0, x1, x2, x3, x4, x5, x6, x7, x8⟩ := box_cells X1.out.box; simp only at x0 x1 x2 x3 x4 x5 x6 x7 x8)
    | (go_at_call 8; (with_reducible refine (cC.out _).mono ?_); rintro e w2 ⟨rfl, b2⟩; have X2 := Lib.hid (ox_on X1.out b2); obtain ⟨y0, y1, y2, y3, y4, y5, y6, y7, y8⟩ := box_cells X2.out.box; simp only at y0 y1 y2 y3 y4 y5 y6 y7 y8; clear x0 x1 x2 x3 x4 x5 x6 x7 x8))
  have n0 : w.heap.size < w2.heap.size := (Array.getElem?_eq_some_iff.1 X2.out.box).1
  have n1 : w.heap.size < w2.heap.size + 1 := by omega
  go_region
  all_goals clear cC X0 b1 X1 b2
  all_goals go_wp2_with (first
    | (go_at_call 12; (with_reducible refine (c1.out _).mono ?_); rintro e w3 ⟨rfl, b3⟩; have T3 := Lib.hid (by first | exact tri_on (tri_A (la := l1) (lb := left - l1) X2.out) b3 | exact tri_on (tri_B (la := l1) (lb := left - l1) X2.out) b3); obtain ⟨x0, x1, x2, x3, x4, x5, x6, x7, x8⟩ := box_cells T3.out.a; simp only at x0 x1 x2 x3 x4 x5 x6 x7 x8; clear b3)
    | (go_at_call 12; (with_reducible refine (c2.out _).mono ?_); rintro e w4 ⟨rfl, b4⟩; have T4 := Lib.hid (tri_on T3.out b4); obtain ⟨z0, z1, z2, z3, z4, z5, z6, z7, z8⟩ := box_cells T4.out.b; simp only at z0 z1 z2 z3 z4 z5 z6 z7 z8; clear b4)
    | (go_at_call 12; (with_reducible refine (c3.out _).mono ?_); rintro e w5 ⟨rfl, b5⟩; have T5 := Lib.hid (tri_on T4.out b5); clear b5))
  all_goals
    go_ret
    exact ⟨ret_bool (by first | rfl | simp), T5.out.below⟩
theorem part_eq {left : Int} (part : Int) (h : 2 ≤ left) (h2 : left ≤ 1099511627776) :
    wrap64 (1 + wrap64 ((IntKind.u64.wrap part).tmod (IntKind.u64.wrap (wrap64 (left - 1))))) = partI left part ∧ ¬ IntKind.u64.wrap (wrap64 (left - 1)) = 0 := by
  have hb := partI_bd part h h2
  have e1 : wrap64 (left - 1) = left - 1 := wrap_rg (by unfold rg; omega)
  have e2 : u64 (left - 1) = (left - 1).toNat := by unfold u64; omega
  rw [e1, u64_wrap, u64_wrap]
  refine ⟨?_, by omega⟩
  have e3 : ((u64 part : Nat) : Int).tmod ((u64 (left - 1) : Nat) : Int) = ((u64 part % u64 (left - 1) : Nat) : Int) := by
    rw [Int.tmod_eq_emod_of_nonneg (by omega)]; rfl
  unfold partI at hb ⊢
  rw [e3, wrap_rg (x := ((u64 part % u64 (left - 1) : Nat) : Int)) (by unfold rg; omega), wrap_rg (by unfold rg; omega)]
theorem walk_needs (o : Odr) (ho : o.ok) (part : Int) (w : World) : Calls Try.prog 4 #[.agg o.cells, .int .i64 part] w fun e w' => e = .returned (.bool true) ∧ Below w.heap.size w w' := by
  by_cases h : chkO o = 0
  · by_cases hl : o.left < 2
    · exact needs_few h hl part w
    · obtain ⟨hsd, p1, p2, s1, s2, l1, l2⟩ := chk_facts h
      have hl2 : 2 ≤ o.left := by omega
      obtain ⟨hp, hz⟩ := part_eq part hl2 (by omega)
      obtain ⟨b1, b2⟩ := partI_bd part hl2 (by omega)
      have cC := check_any o
      rw [h] at cC
      generalize partI o.left part = x at *
      have hq : wrap64 (o.left - x) = o.left - x := wrap_rg (by unfold rg; omega)
      have rl : rg o.left := ho.left
      have rx : rg x := by unfold rg; omega
      have ry : rg (o.left - x) := by unfold rg; omega
      have n1 := needs_any o ho.price ho.left
      have n2 := needs_any { o with left := x } ho.price rx
      have n3 := needs_any { o with left := o.left - x } ho.price ry
      unfold needI at n1 n2 n3
      simp only at n1 n2 n3
      rcases hsd with hs | hs
      · by_cases hr : rg (o.price * o.left)
        · have m1 : 0 < o.price * x := Int.mul_pos (by omega) (by omega)
          have m2 : 0 < o.price * (o.left - x) := Int.mul_pos (by omega) (by omega)
          have m3 : o.price * x + o.price * (o.left - x) = o.price * o.left := by rw [← Int.mul_add]; congr 1; omega
          have g2 : rg (o.price * x) := by unfold rg at *; omega
          have g3 : rg (o.price * (o.left - x)) := by unfold rg at *; omega
          have v : ∀ {z : Int}, rg z → 0 < z → cov z = z ∧ cer z = 0 := fun {z} a b => ⟨if_pos ⟨a, by omega⟩, by unfold cer; rw [if_pos a, if_neg (by omega)]⟩
          rw [if_pos hs, (v hr (by omega)).1, (v hr (by omega)).2] at n1
          rw [if_pos hs, (v g2 m1).1, (v g2 m1).2] at n2
          rw [if_pos hs, (v g3 m2).1, (v g3 m2).2] at n3
          exact needs_good o.id o.account o.side o.price o.size o.left o.rank o.expiry o.state part x w 1 (o.price * o.left) (o.price * x) (o.price * (o.left - x)) (Lib.hid cC) (Lib.hid n1) (Lib.hid n2) (Lib.hid n3) hl2 hp hq hz (by rw [m3]; exact wrap_rg hr) m1 (by omega)
        · rw [if_pos hs, show cov (o.price * o.left) = 0 from if_neg (fun k => hr k.1), show cer (o.price * o.left) = 24 from if_neg hr] at n1
          rw [if_pos hs] at n2 n3
          exact needs_over o.id o.account o.side o.price o.size o.left o.rank o.expiry o.state part x w _ _ _ _ (Lib.hid cC) (Lib.hid n1) (Lib.hid n2) (Lib.hid n3) hl2 hp hq hz
      · rw [if_neg (by omega)] at n1 n2 n3
        exact needs_good o.id o.account o.side o.price o.size o.left o.rank o.expiry o.state part x w 2 o.left x (o.left - x) (Lib.hid cC) (Lib.hid n1) (Lib.hid n2) (Lib.hid n3) hl2 hp hq hz (by rw [show x + (o.left - x) = o.left by omega]; exact wrap_rg rl) (by omega) (by omega)
  · exact needs_bad h part w
end Go.Proofs.Ytckkabiafikjfaa.Odx
