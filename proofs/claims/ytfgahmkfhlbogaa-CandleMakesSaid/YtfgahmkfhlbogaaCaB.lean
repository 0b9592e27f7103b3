/-
  Two candles joined: walked. Conditions: the numbers are of 64 bits.
-/
import Derived.Test.YtfgahmkfhlbogaaCaA
namespace Go.Proofs.Ytfgahmkfhlbogaa.Ca
open Go.RowKit
open Go.Proofs.Ytfgahmkfhlbogaa Go.Proofs.Ytfgahmkfhlbogaa.Hx

def JoQ (c d : Cd) (w : World) (e : Ending) (w' : World) : Prop := e = .returned (.tuple #[cv (join c d).1, .int .i64 (join c d).2]) ∧ Below w.heap.size w w'
theorem joQ_mk {c d r : Cd} {n : Int} {w w' : World} (h : join c d = (r, n)) (hb : Below w.heap.size w w') : JoQ c d w (.returned (.tuple #[cv r, .int .i64 n])) w' := ⟨by rw [h], hb⟩
theorem max_run (a b : Int) : ∀ (ts : Array TypeId) (t : TypeId) (W : World), (Builtin.max_ ts t #[.int .i64 a, .int .i64 b]).run Try.prog W = .ok (.int .i64 (max a b)) W := fun ts t W => by
  rw [run_max_int2 W ts t .i64 .i64]; congr 2; split <;> omega
theorem min_run (a b : Int) : ∀ (ts : Array TypeId) (t : TypeId) (W : World), (Builtin.min_ ts t #[.int .i64 a, .int .i64 b]).run Try.prog W = .ok (.int .i64 (min a b)) W := fun ts t W => by
  rw [run_min_int2 W ts t .i64 .i64]; congr 2; split <;> omega
/-- the three boxes at the beginning -/
theorem join_boxes (c d : Cd) (w : World) :
    ((((w.alloc (.cells (ccs c) 42)).alloc (.cells (ccs d) 42)).alloc (.cells (ccs z0) 42)).heap[w.heap.size]? = some (.cells (ccs c) 42 (0, 0)) ∧
    (((w.alloc (.cells (ccs c) 42)).alloc (.cells (ccs d) 42)).alloc (.cells (ccs z0) 42)).heap[w.heap.size + 1]? = some (.cells (ccs d) 42 (0, 0)) ∧
    (((w.alloc (.cells (ccs c) 42)).alloc (.cells (ccs d) 42)).alloc (.cells (ccs z0) 42)).heap[w.heap.size + 1 + 1]? = some (.cells (ccs z0) 42 (0, 0))) ∧
    Below w.heap.size w (((w.alloc (.cells (ccs c) 42)).alloc (.cells (ccs d) 42)).alloc (.cells (ccs z0) 42)) :=
  ⟨⟨hp_alloc (hp_first w _ _) _, hp_alloc (hp_second w _ _) _, hp_third w _ _ _⟩, (((Below.refl _ w).alloc (Nat.le_refl _) _).alloc (by simp) _).alloc (by simp; omega) _⟩
set_option maxHeartbeats 1000000 in
theorem join_any (c d : Cd) (hc : c.ok) (hd : d.ok) (w : World) :
    Calls Try.prog 29 #[.agg #[.int .i64 c.f, .int .i64 c.h, .int .i64 c.l, .int .i64 c.a, .int .i64 c.s, .int .i64 c.n], .agg #[.int .i64 d.f, .int .i64 d.h, .int .i64 d.l, .int .i64 d.a, .int .i64 d.s, .int .i64 d.n]] w (JoQ c d w) := by
  have B := Lib.hid (join_boxes c d w)
  have ca := Lib.hid (fun W => add_any c.s d.s hc.s hd.s W)
  have x1 := max_run c.h d.h
  have x2 := min_run c.l d.l
  obtain ⟨n1, n2⟩ := hc.n
  obtain ⟨n3, n4⟩ := hd.n
  have HN := Lib.hid (And.intro n1 (And.intro n2 (And.intro n3 n4)))
  clear hc hd n1 n2 n3 n4
  obtain ⟨⟨b1, b2, b3⟩, bw⟩ := B.out
  have BW := Lib.hid bw
  clear bw B
  unfold ccs z0 at *
  generalize hW : ((w.alloc (.cells #[.int .i64 c.f, .int .i64 c.h, .int .i64 c.l, .int .i64 c.a, .int .i64 c.s, .int .i64 c.n] 42)).alloc (.cells #[.int .i64 d.f, .int .i64 d.h, .int .i64 d.l, .int .i64 d.a, .int .i64 d.s, .int .i64 d.n] 42)).alloc (.cells #[.int .i64 0, .int .i64 0, .int .i64 0, .int .i64 0, .int .i64 0, .int .i64 0] 42) = W at *
  obtain ⟨⟨p0, p1, p2, p3, p4, p5⟩, -⟩ := cell6 b1
  obtain ⟨⟨q0, q1, q2, q3, q4, q5⟩, -⟩ := cell6 b2
  obtain ⟨⟨r0, r1, r2, r3, r4, r5⟩, f0, f1, f2, f3, f4, f5⟩ := cell6 b3
  have B1 := Lib.hid (And.intro b1 (And.intro b2 b3))
  clear b1 b2 b3
  by_cases h1 : c.n = 0
  · have E1 : Hid (join c d = (d, 0)) := by rw [Hid]; unfold join; rw [if_pos h1]
    have t1 : (c.n == 0) = true := by simpa using h1
    clear h1
    go_enter Try.func29, Try.ntmps29
    go_wp2
    refine bodyPost_ret (v := .tuple #[cv d, .int .i64 0]) ?_ rfl (joQ_mk E1.out ?_)
    · simp [cv, results, Try.results29, go_sem, r0, r1, r2, r3, r4, r5, f0, f1, f2, f3, f4, f5]
    · exact (((((BW.out.setCell (by simp; omega) _).setCell (by simp; omega) _).setCell (by simp; omega) _).setCell (by simp; omega) _).setCell (by simp; omega) _).setCell (by simp; omega) _
  · by_cases h2 : d.n = 0
    · have E1 : Hid (join c d = (c, 0)) := by rw [Hid]; unfold join; rw [if_neg h1, if_pos h2]
      have t1 : (c.n == 0) = false := by simpa using h1
      have t2 : (d.n == 0) = true := by simpa using h2
      clear h1 h2
      go_enter Try.func29, Try.ntmps29
      go_wp2
      refine bodyPost_ret (v := .tuple #[cv c, .int .i64 0]) ?_ rfl (joQ_mk E1.out ?_)
      · simp [cv, results, Try.results29, go_sem, r0, r1, r2, r3, r4, r5, f0, f1, f2, f3, f4, f5]
      · exact (((((BW.out.setCell (by simp; omega) _).setCell (by simp; omega) _).setCell (by simp; omega) _).setCell (by simp; omega) _).setCell (by simp; omega) _).setCell (by simp; omega) _
    · have t1 : (c.n == 0) = false := by simpa using h1
      have t2 : (d.n == 0) = false := by simpa using h2
      by_cases h3 : Am.rg (c.s + d.s)
      · have E1 : Hid (join c d = (⟨c.f, max c.h d.h, min c.l d.l, d.a, c.s + d.s, wrap64 (c.n + d.n)⟩, 0)) := by rw [Hid]; unfold join; rw [if_neg h1, if_neg h2, if_pos h3]
        rw [Am.okv_in h3, Am.erv_in h3] at ca
        clear h1 h2
        generalize c.s + d.s = s at *
        clear h3
        go_enter Try.func29, Try.ntmps29
        go_wp2_with (go_at_call 31; (with_reducible refine (ca.out _).mono ?_); rintro e w2 ⟨rfl, hb2⟩
                     obtain ⟨b1, b2, b3⟩ := B1.out
                     obtain ⟨⟨p0, p1, p2, p3, p4, p5⟩, -⟩ := cell6 (hp_on b1 hb2)
                     obtain ⟨⟨q0, q1, q2, q3, q4, q5⟩, -⟩ := cell6 (hp_on b2 hb2)
                     obtain ⟨⟨r0, r1, r2, r3, r4, r5⟩, f0, f1, f2, f3, f4, f5⟩ := cell6 (hp_on b3 hb2)
                     have BW2 := Lib.hid (below_on BW.out BW.out.size hb2)
                     clear b1 b2 b3 hb2)
        refine bodyPost_ret (v := .tuple #[cv ⟨c.f, max c.h d.h, min c.l d.l, d.a, s, wrap64 (c.n + d.n)⟩, .int .i64 0]) ?_ rfl (joQ_mk E1.out ?_)
        · simp [cv, results, Try.results29, go_sem, r0, r1, r2, r3, r4, r5, f0, f1, f2, f3, f4, f5]
        · exact (((((BW2.out.setCell (by simp; omega) _).setCell (by simp; omega) _).setCell (by simp; omega) _).setCell (by simp; omega) _).setCell (by simp; omega) _).setCell (by simp; omega) _
      · have E1 : Hid (join c d = (z0, 24)) := by rw [Hid]; unfold join; rw [if_neg h1, if_neg h2, if_neg h3]
        rw [Am.okv_out h3, Am.erv_out h3] at ca
        clear h1 h2 h3
        go_enter Try.func29, Try.ntmps29
        go_wp2_with (go_at_call 31; (with_reducible refine (ca.out _).mono ?_); rintro e w2 ⟨rfl, hb2⟩
                     obtain ⟨b1, b2, b3⟩ := B1.out
                     obtain ⟨⟨r0, r1, r2, r3, r4, r5⟩, f0, f1, f2, f3, f4, f5⟩ := cell6 (hp_on b3 hb2)
                     have BW2 := Lib.hid (below_on BW.out BW.out.size hb2)
                     clear b1 b2 b3 hb2)
        refine bodyPost_ret (v := .tuple #[cv z0, .int .i64 24]) ?_ rfl (joQ_mk E1.out ?_)
        · simp [cv, z0, results, Try.results29, go_sem, r0, r1, r2, r3, r4, r5, f0, f1, f2, f3, f4, f5]
        · exact (((((BW2.out.setCell (by simp; omega) _).setCell (by simp; omega) _).setCell (by simp; omega) _).setCell (by simp; omega) _).setCell (by simp; omega) _).setCell (by simp; omega) _
end Go.Proofs.Ytfgahmkfhlbogaa.Ca
