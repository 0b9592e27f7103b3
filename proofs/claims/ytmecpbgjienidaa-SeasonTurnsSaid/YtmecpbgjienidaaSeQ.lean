/-
  The law SeasonTurns, walked. Conditions: as each theorem states.
-/
import Derived.Test.YtmecpbgjienidaaSeO
namespace Go.Proofs.Ytmecpbgjienidaa
open Go.RowKit
open Se Fl
attribute [local go_sem] run_store_float run_store_complex

def OfE (l : List Int) (w : World) (e : Ending) (w' : World) : Prop :=
  ∃ g : Nat → Cw, e = .returned (.tuple #[.agg #[.complex .f64 (g 0).re (g 0).im, .complex .f64 (g 1).re (g 1).im, .complex .f64 (g 2).re (g 2).im, .complex .f64 (g 3).re (g 3).im], .bool (decide (tot l l.length ≤ 1125899906842624))]) ∧
    WF g (if tot l l.length ≤ 1125899906842624 then wre (smk l l.length) else fun _ => 0) (if tot l l.length ≤ 1125899906842624 then wim (smk l l.length) else fun _ => 0) ∧ Below w.heap.size w w'
theorem ofE_of {l : List Int} {w w' : World} {e : Ending} (h : OfQ l w e w') : OfE l w e w' := by
  obtain ⟨hb, g, he, h1, h2⟩ := h
  refine ⟨g, by rw [he]; rfl, ?_, hb⟩
  by_cases ht : tot l l.length ≤ 1125899906842624
  · rw [if_pos ht, if_pos ht]; exact h1 ht
  · rw [if_neg ht, if_neg ht, h2 ht]; exact fun _ _ => cf_zero
theorem sizes_take (l : List Trd) (j : Nat) (h : j < l.length) : sizesOf (l.take (j + 1)) = sizesOf (l.take j) ++ [(l[j]).size] := by
  unfold sizesOf
  rw [List.take_succ_eq_append_getElem h, List.map_append]; rfl
theorem sizes_len (l : List Trd) (j : Nat) (h : j ≤ l.length) : (sizesOf (l.take j)).length = j := by
  unfold sizesOf; simp; omega
theorem sizes_rg {l : List Trd} (h : ∀ p ∈ l, p.ok) : ∀ p ∈ sizesOf l, rg p := fun p hp => by
  unfold sizesOf at hp
  obtain ⟨x, hx, rfl⟩ := List.mem_map.1 hp
  exact (h x hx).2
theorem turns_long (k re im : Int) (A : Option Addr) (c : Nat) (l : List Trd) (hl : ¬ l.length ≤ 100) (w : World) :
    Calls Try.prog 5 #[.int .i64 k, .int .i32 re, .int .i32 im, .slice A l.length c] w fun e w' => e = .returned (.bool true) ∧ Below w.heap.size w w' := by
  have hll : ¬ (l.length : Int) ≤ 100 := by omega
  go_enter Try.func5, Try.ntmps5
  go_wp2_with (go_at_call 6; refine (awake33_any _).mono ?_; rintro e w1 ⟨rfl, hb1⟩)
  go_ret
  exact ⟨rfl, hb1⟩
theorem tdiv_four (q : Int) : (4 * q).tdiv 4 = q ∧ (4 * q).tmod 4 = 0 := by
  have h1 : (4 * q).tdiv 4 = q := by rw [Int.mul_comm]; exact Int.mul_tdiv_cancel _ (by decide)
  have h2 := Int.mul_tdiv_add_tmod (4 * q) 4
  exact ⟨h1, by omega⟩
theorem tmod_not {x : Int} (h : ¬ x % 4 = 0) : x.tmod 4 ≠ 0 := fun e => h (by have := Int.mul_tdiv_add_tmod x 4; omega)
set_option maxHeartbeats 4000000 in
set_option maxRecDepth 100000 in
theorem turns_a (k re im : Int) (hk1 : -9223372036854775808 ≤ k) (hk2 : k ≤ 9223372036854775807) (hr1 : -2147483648 ≤ re) (hr2 : re ≤ 2147483647) (hi1 : -2147483648 ≤ im) (hi2 : im ≤ 2147483647) (A : Option Addr) (c : Nat) (l : List Trd) (hl : l.length ≤ 100) (hall : ∀ p ∈ l, p.ok) (him : im ≠ 0) (w : World) (RA : TRow w A l) :
    Calls Try.prog 5 #[.int .i64 k, .int .i32 re, .int .i32 im, .slice A l.length c] w fun e w' => e = .returned (.bool true) ∧ Below w.heap.size w w' := by
  have hre : In53 re := by unfold In53; omega
  have him1 : In53 im := by unfold In53; omega
  have hback : ∀ W, Calls Try.prog 11 #[.agg #[.complex .f64 (floatOfInt .f64 re) (floatOfInt .f64 im), .complex .f64 0 0, .complex .f64 0 0, .complex .f64 0 0]] W fun e w' => e = .returned (.tuple #[.agg #[.int .i64 0, .int .i64 0, .int .i64 0, .int .i64 0], .bool false]) ∧ Below W.heap.size W w' := fun W =>
    back_no (odd re im) (first re) (first im) (odd_wf hre him1) (fun j _ => ⟨first_in hre j, first_in him1 j⟩) (by rw [(first_q re im 0).1, (first_q re im 0).2]; exact fun h => him h.1) W
  have f1 : (im == 0) = false := by simpa using him
  have HBK := Lib.hid hback
  clear hback hre him1
  clear him
  have HR := Lib.hid RA
  have HA := Lib.hid hall
  have hll : (l.length : Int) ≤ 100 := by omega
  have cT : Hid (∀ W : World, TRow W A l → Calls Try.prog 14 #[.slice A l.length c] W (OfE (sizesOf l) W)) := fun W R => (trades_any A c l hl hall W R).mono fun _ _ h => ofE_of h
  have cO : Hid (∀ (W : World) (B : Option Addr) (cb : Nat), NRow W B (sizesOf l) → Calls Try.prog 7 #[.slice B (sizesOf l).length cb] W (OfE (sizesOf l) W)) := fun W B cb R => (of_any B cb (sizesOf l) (by unfold sizesOf; simp; omega) (sizes_rg hall) W R).mono fun _ _ h => ofE_of h
  -- turns
  have hand := and3 hk1 hk2
  have hr := turn_lt k
  obtain ⟨k2, hk2e⟩ : ∃ k2, IntKind.i64.wrap (-k) = k2 := ⟨_, rfl⟩
  have hkb : -9223372036854775808 ≤ k2 ∧ k2 ≤ 9223372036854775807 ∧ (k2 % 4).toNat = (4 - (k % 4).toNat) % 4 := by
    rw [← hk2e, IntKind.wrap_i64]; omega
  have t1 : ∀ W, Calls Try.prog 15 #[.int .i64 k] W (CxQ (T (k % 4).toNat) W) := fun W => turn_any k hk1 hk2 W
  have t2 : ∀ W, Calls Try.prog 15 #[.int .i64 k2] W (CxQ (T ((4 - (k % 4).toNat) % 4)) W) := fun W => by
    have h := turn_any k2 hkb.1 hkb.2.1 W
    rw [hkb.2.2] at h; exact h
  have t3 : ∀ W, Calls Try.prog 15 #[.int .i64 ((k % 4).toNat : Nat)] W (CxQ (T (k % 4).toNat) W) := fun W => by
    have h := turn_any ((k % 4).toNat : Nat) (by omega) (by omega) W
    rw [show ((((k % 4).toNat : Nat) : Int) % 4).toNat = (k % 4).toNat by omega] at h; exact h
  have t4 : ∀ W, Calls Try.prog 15 #[.int .i64 (((k % 4).toNat : Nat) + 1)] W (CxQ (T (((k % 4).toNat + 1) % 4)) W) := fun W => by
    have h := turn_any (((k % 4).toNat : Nat) + 1) (by omega) (by omega) W
    rw [show ((((k % 4).toNat : Nat) + 1 : Int) % 4).toNat = ((k % 4).toNat + 1) % 4 by omega] at h; exact h
  obtain ⟨m1, me1, mq1⟩ := T_back (k % 4).toNat _ hr rfl
  obtain ⟨m2, me2, mq2⟩ := T_muli (k % 4).toNat hr
  have ts := T_self (k % 4).toNat
  have T1 := Lib.hid t1
  have T2 := Lib.hid t2
  have T3 := Lib.hid t3
  have T4 := Lib.hid t4
  clear t1 t2 t3 t4 hkb hk1 hk2 RA hall
  generalize T ((4 - (k % 4).toNat) % 4) = b2 at *
  generalize T (((k % 4).toNat + 1) % 4) = b4 at *
  generalize T (k % 4).toNat = b1 at *
  generalize (k % 4).toNat = r at *
  obtain ⟨p1, p2⟩ := ceq_parts mq1
  obtain ⟨p3, p4⟩ := ceq_parts mq2
  obtain ⟨p5, p6⟩ := ceq_parts ts
  have p1' : (FloatKind.f64.format.order m1.re 4607182418800017408 == some .eq) = true := p1
  have p2' : (FloatKind.f64.format.order m1.im 0 == some .eq) = true := p2
  have x1 : ∀ W, (binOp .mul 24 (.complex .f64 b1.re b1.im) (.complex .f64 b2.re b2.im)).run Try.prog W = .ok (.complex .f64 m1.re m1.im) W := fun W => run_complex_mul W _ _ _ _ _ _ _ me1
  have x2 : ∀ W, (binOp .mul 24 (.complex .f64 b1.re b1.im) (.complex .f64 0 4607182418800017408)).run Try.prog W = .ok (.complex .f64 m2.re m2.im) W := fun W => run_complex_mul W _ _ _ _ _ _ _ me2
  have XS := Lib.hid (And.intro x1 x2)
  clear x1 x2 me1 me2 mq1 mq2 ts p1 p2
  obtain ⟨i0, hi, hz0, hz1, hz2⟩ := info_parts infoI64
  have HI := Lib.hid (And.intro hi (And.intro hz0 (And.intro hz1 hz2)))
  clear hi hz0 hz1 hz2
  have HK := Lib.hid hk2e
  have HAND := Lib.hid hand
  clear hk2e hand
  go_enter Try.func5, Try.ntmps5
  go_wp2_with (go_at_call 6; refine (awake33_any _).mono ?_; rintro e w1 ⟨rfl, hb1⟩; have HB1 := Lib.hid hb1; clear hb1)
  go_loopw [9, 27] (fun v i wr => ∃ j : Nat, j ≤ l.length ∧ i = .int .i64 j ∧ wr.ownsRow w.heap.size 2 1 v j (iCells (sizesOf (l.take j))) ∧ Below w.heap.size w wr) (fun _ i _ => l.length - (intOf i).toNat)
  case atStart => exact ⟨0, by omega, rfl, World.ownsRow_nil _ _ _ _, HB1.out⟩
  case round =>
    clear HB1
    obtain ⟨j, hj, rfl, hown, hb⟩ := hrel
    have HO := Lib.hid hown
    clear hown
    by_cases h1 : j < l.length
    · obtain ⟨a, rfl, hab, hc⟩ := HR.out (by omega)
      obtain ⟨c0, c1, c2, c3⟩ := hc j h1
      have kk : ∀ p : Addr, p.block = a.block → wr.cell? p = w.cell? p := fun p hp => hb.cell (p := p) (by rw [hp]; exact hab)
      have hqb : (a.add (j * 4)).block = a.block := block_add _ _
      have y0 := (kk _ hqb).trans c0
      have y1 : wr.cell? ⟨(a.add (j * 4)).block, (a.add (j * 4)).off + 1, none⟩ = some (.int .u64 (l[j]).taker) := (kk _ (by exact hqb)).trans c1
      have y2 : wr.cell? ⟨(a.add (j * 4)).block, (a.add (j * 4)).off + 2, none⟩ = some (.int .i64 (l[j]).price) := (kk _ (by exact hqb)).trans c2
      have y3 : wr.cell? ⟨(a.add (j * 4)).block, (a.add (j * 4)).off + 3, none⟩ = some (.int .i64 (l[j]).size) := (kk _ (by exact hqb)).trans c3
      have HT := Lib.hid (sizes_take l j h1)
      have hsz := hb.size
      clear hc c0 c1 c2 c3 kk hqb
      generalize l[j] = x at *
      obtain ⟨mk, tk, pr, sz⟩ := x
      clear XS T1 T2 T3 T4 p1' p2' p3 p4 p5 p6 HBK cT cO
      go_wp2_with (first
        | (at_builtin
           refine wpList_append_lies _ rfl _ _ 22 rfl w.heap.size 2 i0 _ 1 8 Try.underlying22 HI.out.1 HI.out.2.1 HI.out.2.2.1 HI.out.2.2.2 rfl (by decide) u9 j (iCells (sizesOf (l.take j))) rfl ((HO.out.alloc _).alloc _) ⟨wr.heap.size + 1, 0, none⟩ 1 1 [.int .i64 sz] rfl rfl (by
             have h := news_one (wr.alloc (.cells #[.int .u64 mk, .int .u64 tk, .int .i64 pr, .int .i64 sz] 46)) (.int .i64 sz) 2
             rw [show (wr.alloc (.cells #[.int .u64 mk, .int .u64 tk, .int .i64 pr, .int .i64 sz] 46)).heap.size = wr.heap.size + 1 by simp] at h
             exact h) (by simp [Value.oneCell']) (by omega) (by unfold maxLen; omega) (by omega) (by simp; omega) (wr.heap.size + 2) (by simp) ?_
           intro g cap w4 hown4 hgrow4 hwhere hlt4
           have HE := Lib.hid (And.intro hown4 hgrow4)
           clear hown4 hgrow4 hwhere hlt4))
      refine ⟨⟨j + 1, by omega, by go_num, ?_, below_own ((hb.alloc hsz _).alloc (by simp; omega) _) ((HO.out.alloc _).alloc _) HE.out.2⟩, by simp [intOf]; omega⟩
      rw [HT.out, iCells_snoc]; exact HE.out.1
    · obtain rfl : j = l.length := by omega
      have hown := HO.out
      rw [List.take_length] at hown
      have hsl : l.length = (sizesOf l).length := by unfold sizesOf; simp
      have hown2 : wr.ownsRow w.heap.size 2 1 u9 (sizesOf l).length (iCells (sizesOf l)) := by rw [← hsl]; exact hown
      obtain ⟨A2, cc2, rfl, hnr⟩ := inrow_of hown2
      have R1 := Lib.hid (HR.out.below hb)
      have N1 := Lib.hid hnr
      have HB := Lib.hid hb
      have hk2e := HK.out
      have hand := HAND.out
      obtain ⟨x1, x2⟩ := XS.out
      clear hown hown2 hnr HO hsl hb
      go_wp2_with (first
        | (go_at_call 14; (with_reducible refine (cT.out _ R1.out).mono ?_); rintro e w2 ⟨g1, rfl, hg1, hb2⟩; have N2 := Lib.hid (N1.out.below hb2); have HG1 := Lib.hid hg1; have HB2 := Lib.hid hb2; clear hg1 hb2)
        | (go_at_call 7; (with_reducible refine (cO.out _ A2 cc2 (NRow.alloc N2.out _)).mono ?_); rintro e w3 ⟨g2, rfl, hg2, hb3⟩; have hw := weq_yes HG1.out hg2; have heq : ∀ W, (Op.equalIn 10000 26 (.agg #[.complex .f64 (g1 0).re (g1 0).im, .complex .f64 (g1 1).re (g1 1).im, .complex .f64 (g1 2).re (g1 2).im, .complex .f64 (g1 3).re (g1 3).im]) (.agg #[.complex .f64 (g2 0).re (g2 0).im, .complex .f64 (g2 1).re (g2 1).im, .complex .f64 (g2 2).re (g2 2).im, .complex .f64 (g2 3).re (g2 3).im])).run Try.prog W = .ok (weq g1 g2) W := fun W => equal_wave g1 g2 W; have G3 := Lib.hid (B4.below (B4.new w2 (fcv g1) 26) hb3 (by simp)); have HB3 := Lib.hid hb3; clear hg2 hb3)
        | (go_at_call 11; (with_reducible refine (HBK.out _).mono ?_); rintro e w4 ⟨rfl, hb4⟩; have G4 := Lib.hid (((G3.out.one (.cells #[fcv g2 0, fcv g2 1, fcv g2 2, fcv g2 3] 26)).one _).on hb4); have K4 := Lib.hid (((B4.new w3 (fcv g2) 26).one _).on hb4); have a0 := G4.out.cx (j := 0) (by decide); have a1 := G4.out.cx (j := 1) (by decide); have a2 := G4.out.cx (j := 2) (by decide); have a3 := G4.out.cx (j := 3) (by decide); have d0 := K4.out.cx (j := 0) (by decide); have d1 := K4.out.cx (j := 1) (by decide); have d2 := K4.out.cx (j := 2) (by decide); have d3 := K4.out.cx (j := 3) (by decide); have l1 := G4.out.1; have l2 := K4.out.1; have HB4 := Lib.hid hb4; clear hb4)
        | (go_at_call 15; first
            | ((with_reducible refine (T1.out _).mono ?_); rintro e w5 ⟨rfl, rfl⟩)
            | ((with_reducible refine (T2.out _).mono ?_); rintro e w5 ⟨rfl, rfl⟩)
            | ((with_reducible refine (T3.out _).mono ?_); rintro e w5 ⟨rfl, rfl⟩)
            | ((with_reducible refine (T4.out _).mono ?_); rintro e w5 ⟨rfl, rfl⟩)))
      go_ret
      have q1 := HB.out.trans (HB2.out.mono HB.out.size)
      have q2 := q1.alloc q1.size (.cells #[fcv g1 0, fcv g1 1, fcv g1 2, fcv g1 3] 26)
      have q3 := q2.trans (HB3.out.mono q2.size)
      have q4 := q3.alloc q3.size (.cells #[fcv g2 0, fcv g2 1, fcv g2 2, fcv g2 3] 26)
      have q5 := q4.alloc q4.size (.cells #[.complex .f64 (floatOfInt .f64 re) (floatOfInt .f64 im), .complex .f64 0 0, .complex .f64 0 0, .complex .f64 0 0] 26)
      have q6 := q5.trans (HB4.out.mono q5.size)
      exact ⟨rfl, q6.alloc q6.size _⟩
set_option maxHeartbeats 4000000 in
set_option maxRecDepth 100000 in
theorem turns_b (k re im : Int) (hk1 : -9223372036854775808 ≤ k) (hk2 : k ≤ 9223372036854775807) (hr1 : -2147483648 ≤ re) (hr2 : re ≤ 2147483647) (_hi1 : -2147483648 ≤ im) (_hi2 : im ≤ 2147483647) (A : Option Addr) (c : Nat) (l : List Trd) (hl : l.length ≤ 100) (hall : ∀ p ∈ l, p.ok) (him : im = 0) (hr4 : ¬ re % 4 = 0) (w : World) (RA : TRow w A l) :
    Calls Try.prog 5 #[.int .i64 k, .int .i32 re, .int .i32 im, .slice A l.length c] w fun e w' => e = .returned (.bool true) ∧ Below w.heap.size w w' := by
  have hre : In53 re := by unfold In53; omega
  have him1 : In53 im := by unfold In53; omega
  have hback : ∀ W, Calls Try.prog 11 #[.agg #[.complex .f64 (floatOfInt .f64 re) (floatOfInt .f64 im), .complex .f64 0 0, .complex .f64 0 0, .complex .f64 0 0]] W fun e w' => e = .returned (.tuple #[.agg #[.int .i64 0, .int .i64 0, .int .i64 0, .int .i64 0], .bool false]) ∧ Below W.heap.size W w' := fun W =>
    back_no (odd re im) (first re) (first im) (odd_wf hre him1) (fun j _ => ⟨first_in hre j, first_in him1 j⟩) (by rw [(first_q re im 0).1, (first_q re im 0).2]; exact fun h => hr4 h.2) W
  have f1 : (im == 0) = true := by simpa using him
  have f2 : (re.tmod 4 == 0) = false := by simpa using tmod_not hr4
  have HBK := Lib.hid hback
  clear hback hre him1
  clear him hr4
  have HR := Lib.hid RA
  have HA := Lib.hid hall
  have hll : (l.length : Int) ≤ 100 := by omega
  have cT : Hid (∀ W : World, TRow W A l → Calls Try.prog 14 #[.slice A l.length c] W (OfE (sizesOf l) W)) := fun W R => (trades_any A c l hl hall W R).mono fun _ _ h => ofE_of h
  have cO : Hid (∀ (W : World) (B : Option Addr) (cb : Nat), NRow W B (sizesOf l) → Calls Try.prog 7 #[.slice B (sizesOf l).length cb] W (OfE (sizesOf l) W)) := fun W B cb R => (of_any B cb (sizesOf l) (by unfold sizesOf; simp; omega) (sizes_rg hall) W R).mono fun _ _ h => ofE_of h
  -- turns
  have hand := and3 hk1 hk2
  have hr := turn_lt k
  obtain ⟨k2, hk2e⟩ : ∃ k2, IntKind.i64.wrap (-k) = k2 := ⟨_, rfl⟩
  have hkb : -9223372036854775808 ≤ k2 ∧ k2 ≤ 9223372036854775807 ∧ (k2 % 4).toNat = (4 - (k % 4).toNat) % 4 := by
    rw [← hk2e, IntKind.wrap_i64]; omega
  have t1 : ∀ W, Calls Try.prog 15 #[.int .i64 k] W (CxQ (T (k % 4).toNat) W) := fun W => turn_any k hk1 hk2 W
  have t2 : ∀ W, Calls Try.prog 15 #[.int .i64 k2] W (CxQ (T ((4 - (k % 4).toNat) % 4)) W) := fun W => by
    have h := turn_any k2 hkb.1 hkb.2.1 W
    rw [hkb.2.2] at h; exact h
  have t3 : ∀ W, Calls Try.prog 15 #[.int .i64 ((k % 4).toNat : Nat)] W (CxQ (T (k % 4).toNat) W) := fun W => by
    have h := turn_any ((k % 4).toNat : Nat) (by omega) (by omega) W
    rw [show ((((k % 4).toNat : Nat) : Int) % 4).toNat = (k % 4).toNat by omega] at h; exact h
  have t4 : ∀ W, Calls Try.prog 15 #[.int .i64 (((k % 4).toNat : Nat) + 1)] W (CxQ (T (((k % 4).toNat + 1) % 4)) W) := fun W => by
    have h := turn_any (((k % 4).toNat : Nat) + 1) (by omega) (by omega) W
    rw [show ((((k % 4).toNat : Nat) + 1 : Int) % 4).toNat = ((k % 4).toNat + 1) % 4 by omega] at h; exact h
  obtain ⟨m1, me1, mq1⟩ := T_back (k % 4).toNat _ hr rfl
  obtain ⟨m2, me2, mq2⟩ := T_muli (k % 4).toNat hr
  have ts := T_self (k % 4).toNat
  have T1 := Lib.hid t1
  have T2 := Lib.hid t2
  have T3 := Lib.hid t3
  have T4 := Lib.hid t4
  clear t1 t2 t3 t4 hkb hk1 hk2 RA hall
  generalize T ((4 - (k % 4).toNat) % 4) = b2 at *
  generalize T (((k % 4).toNat + 1) % 4) = b4 at *
  generalize T (k % 4).toNat = b1 at *
  generalize (k % 4).toNat = r at *
  obtain ⟨p1, p2⟩ := ceq_parts mq1
  obtain ⟨p3, p4⟩ := ceq_parts mq2
  obtain ⟨p5, p6⟩ := ceq_parts ts
  have p1' : (FloatKind.f64.format.order m1.re 4607182418800017408 == some .eq) = true := p1
  have p2' : (FloatKind.f64.format.order m1.im 0 == some .eq) = true := p2
  have x1 : ∀ W, (binOp .mul 24 (.complex .f64 b1.re b1.im) (.complex .f64 b2.re b2.im)).run Try.prog W = .ok (.complex .f64 m1.re m1.im) W := fun W => run_complex_mul W _ _ _ _ _ _ _ me1
  have x2 : ∀ W, (binOp .mul 24 (.complex .f64 b1.re b1.im) (.complex .f64 0 4607182418800017408)).run Try.prog W = .ok (.complex .f64 m2.re m2.im) W := fun W => run_complex_mul W _ _ _ _ _ _ _ me2
  have XS := Lib.hid (And.intro x1 x2)
  clear x1 x2 me1 me2 mq1 mq2 ts p1 p2
  obtain ⟨i0, hi, hz0, hz1, hz2⟩ := info_parts infoI64
  have HI := Lib.hid (And.intro hi (And.intro hz0 (And.intro hz1 hz2)))
  clear hi hz0 hz1 hz2
  have HK := Lib.hid hk2e
  have HAND := Lib.hid hand
  clear hk2e hand
  go_enter Try.func5, Try.ntmps5
  go_wp2_with (go_at_call 6; refine (awake33_any _).mono ?_; rintro e w1 ⟨rfl, hb1⟩; have HB1 := Lib.hid hb1; clear hb1)
  go_loopw [9, 27] (fun v i wr => ∃ j : Nat, j ≤ l.length ∧ i = .int .i64 j ∧ wr.ownsRow w.heap.size 2 1 v j (iCells (sizesOf (l.take j))) ∧ Below w.heap.size w wr) (fun _ i _ => l.length - (intOf i).toNat)
  case atStart => exact ⟨0, by omega, rfl, World.ownsRow_nil _ _ _ _, HB1.out⟩
  case round =>
    clear HB1
    obtain ⟨j, hj, rfl, hown, hb⟩ := hrel
    have HO := Lib.hid hown
    clear hown
    by_cases h1 : j < l.length
    · obtain ⟨a, rfl, hab, hc⟩ := HR.out (by omega)
      obtain ⟨c0, c1, c2, c3⟩ := hc j h1
      have kk : ∀ p : Addr, p.block = a.block → wr.cell? p = w.cell? p := fun p hp => hb.cell (p := p) (by rw [hp]; exact hab)
      have hqb : (a.add (j * 4)).block = a.block := block_add _ _
      have y0 := (kk _ hqb).trans c0
      have y1 : wr.cell? ⟨(a.add (j * 4)).block, (a.add (j * 4)).off + 1, none⟩ = some (.int .u64 (l[j]).taker) := (kk _ (by exact hqb)).trans c1
      have y2 : wr.cell? ⟨(a.add (j * 4)).block, (a.add (j * 4)).off + 2, none⟩ = some (.int .i64 (l[j]).price) := (kk _ (by exact hqb)).trans c2
      have y3 : wr.cell? ⟨(a.add (j * 4)).block, (a.add (j * 4)).off + 3, none⟩ = some (.int .i64 (l[j]).size) := (kk _ (by exact hqb)).trans c3
      have HT := Lib.hid (sizes_take l j h1)
      have hsz := hb.size
      clear hc c0 c1 c2 c3 kk hqb
      generalize l[j] = x at *
      obtain ⟨mk, tk, pr, sz⟩ := x
      clear XS T1 T2 T3 T4 p1' p2' p3 p4 p5 p6 HBK cT cO
      go_wp2_with (first
        | (at_builtin
           refine wpList_append_lies _ rfl _ _ 22 rfl w.heap.size 2 i0 _ 1 8 Try.underlying22 HI.out.1 HI.out.2.1 HI.out.2.2.1 HI.out.2.2.2 rfl (by decide) u9 j (iCells (sizesOf (l.take j))) rfl ((HO.out.alloc _).alloc _) ⟨wr.heap.size + 1, 0, none⟩ 1 1 [.int .i64 sz] rfl rfl (by
             have h := news_one (wr.alloc (.cells #[.int .u64 mk, .int .u64 tk, .int .i64 pr, .int .i64 sz] 46)) (.int .i64 sz) 2
             rw [show (wr.alloc (.cells #[.int .u64 mk, .int .u64 tk, .int .i64 pr, .int .i64 sz] 46)).heap.size = wr.heap.size + 1 by simp] at h
             exact h) (by simp [Value.oneCell']) (by omega) (by unfold maxLen; omega) (by omega) (by simp; omega) (wr.heap.size + 2) (by simp) ?_
           intro g cap w4 hown4 hgrow4 hwhere hlt4
           have HE := Lib.hid (And.intro hown4 hgrow4)
           clear hown4 hgrow4 hwhere hlt4))
      refine ⟨⟨j + 1, by omega, by go_num, ?_, below_own ((hb.alloc hsz _).alloc (by simp; omega) _) ((HO.out.alloc _).alloc _) HE.out.2⟩, by simp [intOf]; omega⟩
      rw [HT.out, iCells_snoc]; exact HE.out.1
    · obtain rfl : j = l.length := by omega
      have hown := HO.out
      rw [List.take_length] at hown
      have hsl : l.length = (sizesOf l).length := by unfold sizesOf; simp
      have hown2 : wr.ownsRow w.heap.size 2 1 u9 (sizesOf l).length (iCells (sizesOf l)) := by rw [← hsl]; exact hown
      obtain ⟨A2, cc2, rfl, hnr⟩ := inrow_of hown2
      have R1 := Lib.hid (HR.out.below hb)
      have N1 := Lib.hid hnr
      have HB := Lib.hid hb
      have hk2e := HK.out
      have hand := HAND.out
      obtain ⟨x1, x2⟩ := XS.out
      clear hown hown2 hnr HO hsl hb
      go_wp2_with (first
        | (go_at_call 14; (with_reducible refine (cT.out _ R1.out).mono ?_); rintro e w2 ⟨g1, rfl, hg1, hb2⟩; have N2 := Lib.hid (N1.out.below hb2); have HG1 := Lib.hid hg1; have HB2 := Lib.hid hb2; clear hg1 hb2)
        | (go_at_call 7; (with_reducible refine (cO.out _ A2 cc2 (NRow.alloc N2.out _)).mono ?_); rintro e w3 ⟨g2, rfl, hg2, hb3⟩; have hw := weq_yes HG1.out hg2; have heq : ∀ W, (Op.equalIn 10000 26 (.agg #[.complex .f64 (g1 0).re (g1 0).im, .complex .f64 (g1 1).re (g1 1).im, .complex .f64 (g1 2).re (g1 2).im, .complex .f64 (g1 3).re (g1 3).im]) (.agg #[.complex .f64 (g2 0).re (g2 0).im, .complex .f64 (g2 1).re (g2 1).im, .complex .f64 (g2 2).re (g2 2).im, .complex .f64 (g2 3).re (g2 3).im])).run Try.prog W = .ok (weq g1 g2) W := fun W => equal_wave g1 g2 W; have G3 := Lib.hid (B4.below (B4.new w2 (fcv g1) 26) hb3 (by simp)); have HB3 := Lib.hid hb3; clear hg2 hb3)
        | (go_at_call 11; (with_reducible refine (HBK.out _).mono ?_); rintro e w4 ⟨rfl, hb4⟩; have G4 := Lib.hid (((G3.out.one (.cells #[fcv g2 0, fcv g2 1, fcv g2 2, fcv g2 3] 26)).one _).on hb4); have K4 := Lib.hid (((B4.new w3 (fcv g2) 26).one _).on hb4); have a0 := G4.out.cx (j := 0) (by decide); have a1 := G4.out.cx (j := 1) (by decide); have a2 := G4.out.cx (j := 2) (by decide); have a3 := G4.out.cx (j := 3) (by decide); have d0 := K4.out.cx (j := 0) (by decide); have d1 := K4.out.cx (j := 1) (by decide); have d2 := K4.out.cx (j := 2) (by decide); have d3 := K4.out.cx (j := 3) (by decide); have l1 := G4.out.1; have l2 := K4.out.1; have HB4 := Lib.hid hb4; clear hb4)
        | (go_at_call 15; first
            | ((with_reducible refine (T1.out _).mono ?_); rintro e w5 ⟨rfl, rfl⟩)
            | ((with_reducible refine (T2.out _).mono ?_); rintro e w5 ⟨rfl, rfl⟩)
            | ((with_reducible refine (T3.out _).mono ?_); rintro e w5 ⟨rfl, rfl⟩)
            | ((with_reducible refine (T4.out _).mono ?_); rintro e w5 ⟨rfl, rfl⟩)))
      go_ret
      have q1 := HB.out.trans (HB2.out.mono HB.out.size)
      have q2 := q1.alloc q1.size (.cells #[fcv g1 0, fcv g1 1, fcv g1 2, fcv g1 3] 26)
      have q3 := q2.trans (HB3.out.mono q2.size)
      have q4 := q3.alloc q3.size (.cells #[fcv g2 0, fcv g2 1, fcv g2 2, fcv g2 3] 26)
      have q5 := q4.alloc q4.size (.cells #[.complex .f64 (floatOfInt .f64 re) (floatOfInt .f64 im), .complex .f64 0 0, .complex .f64 0 0, .complex .f64 0 0] 26)
      have q6 := q5.trans (HB4.out.mono q5.size)
      exact ⟨rfl, q6.alloc q6.size _⟩
set_option maxHeartbeats 4000000 in
set_option maxRecDepth 100000 in
theorem turns_c (k re im : Int) (hk1 : -9223372036854775808 ≤ k) (hk2 : k ≤ 9223372036854775807) (hr1 : -2147483648 ≤ re) (hr2 : re ≤ 2147483647) (_hi1 : -2147483648 ≤ im) (_hi2 : im ≤ 2147483647) (A : Option Addr) (c : Nat) (l : List Trd) (hl : l.length ≤ 100) (hall : ∀ p ∈ l, p.ok) (q : Int) (him : im = 0) (hr4 : re = 4 * q) (w : World) (RA : TRow w A l) :
    Calls Try.prog 5 #[.int .i64 k, .int .i32 re, .int .i32 im, .slice A l.length c] w fun e w' => e = .returned (.bool true) ∧ Below w.heap.size w w' := by
  have hre : In53 re := by unfold In53; omega
  have him1 : In53 im := by unfold In53; omega
  have hback : ∀ W, Calls Try.prog 11 #[.agg #[.complex .f64 (floatOfInt .f64 re) (floatOfInt .f64 im), .complex .f64 0 0, .complex .f64 0 0, .complex .f64 0 0]] W fun e w' => e = .returned (.tuple #[.agg #[.int .i64 q, .int .i64 q, .int .i64 q, .int .i64 q], .bool true]) ∧ Below W.heap.size W w' := fun W =>
    back_yes (odd re im) (first re) (first im) (odd_wf hre him1) (fun j _ => ⟨first_in hre j, first_in him1 j⟩) (fun _ => q) (fun p _ => by rw [(first_q re im p).1, (first_q re im p).2]; exact ⟨hr4, him⟩) W
  have f1 : (im == 0) = true := by simpa using him
  have f2 : (re.tmod 4 == 0) = true := by rw [hr4, (tdiv_four q).2]; rfl
  have f3 : re.tdiv 4 = q := by rw [hr4]; exact (tdiv_four q).1
  have f4 : IntKind.i64.wrap q = q := IntWalk.i64_in _ (by omega)
  have heqi := fun W => equal_ints q W
  have HBK := Lib.hid hback
  clear hback hre him1
  clear him hr4
  have HR := Lib.hid RA
  have HA := Lib.hid hall
  have hll : (l.length : Int) ≤ 100 := by omega
  have cT : Hid (∀ W : World, TRow W A l → Calls Try.prog 14 #[.slice A l.length c] W (OfE (sizesOf l) W)) := fun W R => (trades_any A c l hl hall W R).mono fun _ _ h => ofE_of h
  have cO : Hid (∀ (W : World) (B : Option Addr) (cb : Nat), NRow W B (sizesOf l) → Calls Try.prog 7 #[.slice B (sizesOf l).length cb] W (OfE (sizesOf l) W)) := fun W B cb R => (of_any B cb (sizesOf l) (by unfold sizesOf; simp; omega) (sizes_rg hall) W R).mono fun _ _ h => ofE_of h
  -- turns
  have hand := and3 hk1 hk2
  have hr := turn_lt k
  obtain ⟨k2, hk2e⟩ : ∃ k2, IntKind.i64.wrap (-k) = k2 := ⟨_, rfl⟩
  have hkb : -9223372036854775808 ≤ k2 ∧ k2 ≤ 9223372036854775807 ∧ (k2 % 4).toNat = (4 - (k % 4).toNat) % 4 := by
    rw [← hk2e, IntKind.wrap_i64]; omega
  have t1 : ∀ W, Calls Try.prog 15 #[.int .i64 k] W (CxQ (T (k % 4).toNat) W) := fun W => turn_any k hk1 hk2 W
  have t2 : ∀ W, Calls Try.prog 15 #[.int .i64 k2] W (CxQ (T ((4 - (k % 4).toNat) % 4)) W) := fun W => by
    have h := turn_any k2 hkb.1 hkb.2.1 W
    rw [hkb.2.2] at h; exact h
  have t3 : ∀ W, Calls Try.prog 15 #[.int .i64 ((k % 4).toNat : Nat)] W (CxQ (T (k % 4).toNat) W) := fun W => by
    have h := turn_any ((k % 4).toNat : Nat) (by omega) (by omega) W
    rw [show ((((k % 4).toNat : Nat) : Int) % 4).toNat = (k % 4).toNat by omega] at h; exact h
  have t4 : ∀ W, Calls Try.prog 15 #[.int .i64 (((k % 4).toNat : Nat) + 1)] W (CxQ (T (((k % 4).toNat + 1) % 4)) W) := fun W => by
    have h := turn_any (((k % 4).toNat : Nat) + 1) (by omega) (by omega) W
    rw [show ((((k % 4).toNat : Nat) + 1 : Int) % 4).toNat = ((k % 4).toNat + 1) % 4 by omega] at h; exact h
  obtain ⟨m1, me1, mq1⟩ := T_back (k % 4).toNat _ hr rfl
  obtain ⟨m2, me2, mq2⟩ := T_muli (k % 4).toNat hr
  have ts := T_self (k % 4).toNat
  have T1 := Lib.hid t1
  have T2 := Lib.hid t2
  have T3 := Lib.hid t3
  have T4 := Lib.hid t4
  clear t1 t2 t3 t4 hkb hk1 hk2 RA hall
  generalize T ((4 - (k % 4).toNat) % 4) = b2 at *
  generalize T (((k % 4).toNat + 1) % 4) = b4 at *
  generalize T (k % 4).toNat = b1 at *
  generalize (k % 4).toNat = r at *
  obtain ⟨p1, p2⟩ := ceq_parts mq1
  obtain ⟨p3, p4⟩ := ceq_parts mq2
  obtain ⟨p5, p6⟩ := ceq_parts ts
  have p1' : (FloatKind.f64.format.order m1.re 4607182418800017408 == some .eq) = true := p1
  have p2' : (FloatKind.f64.format.order m1.im 0 == some .eq) = true := p2
  have x1 : ∀ W, (binOp .mul 24 (.complex .f64 b1.re b1.im) (.complex .f64 b2.re b2.im)).run Try.prog W = .ok (.complex .f64 m1.re m1.im) W := fun W => run_complex_mul W _ _ _ _ _ _ _ me1
  have x2 : ∀ W, (binOp .mul 24 (.complex .f64 b1.re b1.im) (.complex .f64 0 4607182418800017408)).run Try.prog W = .ok (.complex .f64 m2.re m2.im) W := fun W => run_complex_mul W _ _ _ _ _ _ _ me2
  have XS := Lib.hid (And.intro x1 x2)
  clear x1 x2 me1 me2 mq1 mq2 ts p1 p2
  obtain ⟨i0, hi, hz0, hz1, hz2⟩ := info_parts infoI64
  have HI := Lib.hid (And.intro hi (And.intro hz0 (And.intro hz1 hz2)))
  clear hi hz0 hz1 hz2
  have HK := Lib.hid hk2e
  have HAND := Lib.hid hand
  clear hk2e hand
  go_enter Try.func5, Try.ntmps5
  go_wp2_with (go_at_call 6; refine (awake33_any _).mono ?_; rintro e w1 ⟨rfl, hb1⟩; have HB1 := Lib.hid hb1; clear hb1)
  go_loopw [9, 27] (fun v i wr => ∃ j : Nat, j ≤ l.length ∧ i = .int .i64 j ∧ wr.ownsRow w.heap.size 2 1 v j (iCells (sizesOf (l.take j))) ∧ Below w.heap.size w wr) (fun _ i _ => l.length - (intOf i).toNat)
  case atStart => exact ⟨0, by omega, rfl, World.ownsRow_nil _ _ _ _, HB1.out⟩
  case round =>
    clear HB1
    obtain ⟨j, hj, rfl, hown, hb⟩ := hrel
    have HO := Lib.hid hown
    clear hown
    by_cases h1 : j < l.length
    · obtain ⟨a, rfl, hab, hc⟩ := HR.out (by omega)
      obtain ⟨c0, c1, c2, c3⟩ := hc j h1
      have kk : ∀ p : Addr, p.block = a.block → wr.cell? p = w.cell? p := fun p hp => hb.cell (p := p) (by rw [hp]; exact hab)
      have hqb : (a.add (j * 4)).block = a.block := block_add _ _
      have y0 := (kk _ hqb).trans c0
      have y1 : wr.cell? ⟨(a.add (j * 4)).block, (a.add (j * 4)).off + 1, none⟩ = some (.int .u64 (l[j]).taker) := (kk _ (by exact hqb)).trans c1
      have y2 : wr.cell? ⟨(a.add (j * 4)).block, (a.add (j * 4)).off + 2, none⟩ = some (.int .i64 (l[j]).price) := (kk _ (by exact hqb)).trans c2
      have y3 : wr.cell? ⟨(a.add (j * 4)).block, (a.add (j * 4)).off + 3, none⟩ = some (.int .i64 (l[j]).size) := (kk _ (by exact hqb)).trans c3
      have HT := Lib.hid (sizes_take l j h1)
      have hsz := hb.size
      clear hc c0 c1 c2 c3 kk hqb
      generalize l[j] = x at *
      obtain ⟨mk, tk, pr, sz⟩ := x
      clear XS T1 T2 T3 T4 p1' p2' p3 p4 p5 p6 HBK cT cO
      go_wp2_with (first
        | (at_builtin
           refine wpList_append_lies _ rfl _ _ 22 rfl w.heap.size 2 i0 _ 1 8 Try.underlying22 HI.out.1 HI.out.2.1 HI.out.2.2.1 HI.out.2.2.2 rfl (by decide) u9 j (iCells (sizesOf (l.take j))) rfl ((HO.out.alloc _).alloc _) ⟨wr.heap.size + 1, 0, none⟩ 1 1 [.int .i64 sz] rfl rfl (by
             have h := news_one (wr.alloc (.cells #[.int .u64 mk, .int .u64 tk, .int .i64 pr, .int .i64 sz] 46)) (.int .i64 sz) 2
             rw [show (wr.alloc (.cells #[.int .u64 mk, .int .u64 tk, .int .i64 pr, .int .i64 sz] 46)).heap.size = wr.heap.size + 1 by simp] at h
             exact h) (by simp [Value.oneCell']) (by omega) (by unfold maxLen; omega) (by omega) (by simp; omega) (wr.heap.size + 2) (by simp) ?_
           intro g cap w4 hown4 hgrow4 hwhere hlt4
           have HE := Lib.hid (And.intro hown4 hgrow4)
           clear hown4 hgrow4 hwhere hlt4))
      refine ⟨⟨j + 1, by omega, by go_num, ?_, below_own ((hb.alloc hsz _).alloc (by simp; omega) _) ((HO.out.alloc _).alloc _) HE.out.2⟩, by simp [intOf]; omega⟩
      rw [HT.out, iCells_snoc]; exact HE.out.1
    · obtain rfl : j = l.length := by omega
      have hown := HO.out
      rw [List.take_length] at hown
      have hsl : l.length = (sizesOf l).length := by unfold sizesOf; simp
      have hown2 : wr.ownsRow w.heap.size 2 1 u9 (sizesOf l).length (iCells (sizesOf l)) := by rw [← hsl]; exact hown
      obtain ⟨A2, cc2, rfl, hnr⟩ := inrow_of hown2
      have R1 := Lib.hid (HR.out.below hb)
      have N1 := Lib.hid hnr
      have HB := Lib.hid hb
      have hk2e := HK.out
      have hand := HAND.out
      obtain ⟨x1, x2⟩ := XS.out
      clear hown hown2 hnr HO hsl hb
      go_wp2_with (first
        | (go_at_call 14; (with_reducible refine (cT.out _ R1.out).mono ?_); rintro e w2 ⟨g1, rfl, hg1, hb2⟩; have N2 := Lib.hid (N1.out.below hb2); have HG1 := Lib.hid hg1; have HB2 := Lib.hid hb2; clear hg1 hb2)
        | (go_at_call 7; (with_reducible refine (cO.out _ A2 cc2 (NRow.alloc N2.out _)).mono ?_); rintro e w3 ⟨g2, rfl, hg2, hb3⟩; have hw := weq_yes HG1.out hg2; have heq : ∀ W, (Op.equalIn 10000 26 (.agg #[.complex .f64 (g1 0).re (g1 0).im, .complex .f64 (g1 1).re (g1 1).im, .complex .f64 (g1 2).re (g1 2).im, .complex .f64 (g1 3).re (g1 3).im]) (.agg #[.complex .f64 (g2 0).re (g2 0).im, .complex .f64 (g2 1).re (g2 1).im, .complex .f64 (g2 2).re (g2 2).im, .complex .f64 (g2 3).re (g2 3).im])).run Try.prog W = .ok (weq g1 g2) W := fun W => equal_wave g1 g2 W; have G3 := Lib.hid (B4.below (B4.new w2 (fcv g1) 26) hb3 (by simp)); have HB3 := Lib.hid hb3; clear hg2 hb3)
        | (go_at_call 11; (with_reducible refine (HBK.out _).mono ?_); rintro e w4 ⟨rfl, hb4⟩; have G4 := Lib.hid (((G3.out.one (.cells #[fcv g2 0, fcv g2 1, fcv g2 2, fcv g2 3] 26)).one _).on hb4); have K4 := Lib.hid (((B4.new w3 (fcv g2) 26).one _).on hb4); have a0 := G4.out.cx (j := 0) (by decide); have a1 := G4.out.cx (j := 1) (by decide); have a2 := G4.out.cx (j := 2) (by decide); have a3 := G4.out.cx (j := 3) (by decide); have d0 := K4.out.cx (j := 0) (by decide); have d1 := K4.out.cx (j := 1) (by decide); have d2 := K4.out.cx (j := 2) (by decide); have d3 := K4.out.cx (j := 3) (by decide); have l1 := G4.out.1; have l2 := K4.out.1; have HB4 := Lib.hid hb4; clear hb4)
        | (go_at_call 15; first
            | ((with_reducible refine (T1.out _).mono ?_); rintro e w5 ⟨rfl, rfl⟩)
            | ((with_reducible refine (T2.out _).mono ?_); rintro e w5 ⟨rfl, rfl⟩)
            | ((with_reducible refine (T3.out _).mono ?_); rintro e w5 ⟨rfl, rfl⟩)
            | ((with_reducible refine (T4.out _).mono ?_); rintro e w5 ⟨rfl, rfl⟩)))
      go_ret
      have q1 := HB.out.trans (HB2.out.mono HB.out.size)
      have q2 := q1.alloc q1.size (.cells #[fcv g1 0, fcv g1 1, fcv g1 2, fcv g1 3] 26)
      have q3 := q2.trans (HB3.out.mono q2.size)
      have q4 := q3.alloc q3.size (.cells #[fcv g2 0, fcv g2 1, fcv g2 2, fcv g2 3] 26)
      have q5 := q4.alloc q4.size (.cells #[.complex .f64 (floatOfInt .f64 re) (floatOfInt .f64 im), .complex .f64 0 0, .complex .f64 0 0, .complex .f64 0 0] 26)
      have q6 := q5.trans (HB4.out.mono q5.size)
      exact ⟨rfl, q6.alloc q6.size _⟩
end Go.Proofs.Ytmecpbgjienidaa
