/-
  The law VarintLens returns true at every input. No condition.
-/
import Derived.Test.YtgpifihghklgfaaViAwake
namespace Go.Proofs.Ytgpifihghklgfaa.varintLens
open Go.ChangeShapes Go.WideShapes Go.ChangeAt Go.RowKit
open Go.Proofs.Ytgpifihghklgfaa
open Vi

set_option maxHeartbeats 1000000 in
theorem walk_lt_in (a b : Nat) (c : Int) (X Y Z : List UInt8) (hla : X.length ≤ 10) (hlb : Y.length ≤ 10) (hlz : Z.length ≤ 10) (hab : a < b) (hle : X.length ≤ Y.length) (hXY : Hid (¬ X = Y)) (hEx : Hid (¬ Y.take X.length = X)) (f1 : -64 ≤ c) (f2 : c < 64) (hz : Hid (Z.length = 1))
    (cA : Hid (∀ W : World, Calls Try.prog 9 #[.int .u64 a] W fun e w' => e = .returned (.string (bs X)) ∧ Below W.heap.size W w')) (cB : Hid (∀ W : World, Calls Try.prog 9 #[.int .u64 b] W fun e w' => e = .returned (.string (bs Y)) ∧ Below W.heap.size W w')) (cS : Hid (∀ W : World, Calls Try.prog 11 #[.int .i64 c] W fun e w' => e = .returned (.string (bs Z)) ∧ Below W.heap.size W w'))
    (lA : Hid (∀ W : World, Calls Try.prog 18 #[.int .u64 a] W fun e w' => e = .returned (.int .i64 X.length) ∧ W = w')) (lB : Hid (∀ W : World, Calls Try.prog 18 #[.int .u64 b] W fun e w' => e = .returned (.int .i64 Y.length) ∧ W = w')) (w : World) :
    Calls Try.prog 7 #[.int .u64 a, .int .u64 b, .int .i64 c] w fun e w' => e = .returned (.bool true) ∧ Below w.heap.size w w' := by
  have hbl := bs_list
  have hbz := bs_size
  have hxy : (X == Y) = false := by simpa using hXY.out
  have hyx : (Y == X) = false := by rw [Bool.eq_false_iff]; intro h; exact hXY.out (by simpa using h : Y = X).symm
  have hex : (((bs Y).extract 0 X.length).toList == X) = false := by rw [Lib.extract_toList, bs_toList, List.drop_zero, Nat.sub_zero]; simpa using hEx.out
  have hex2 : (((bs Y).extract 0 X.length).toList != X) = true := by rw [bne, hex]; rfl
  have e1 : ((a : Int) == (b : Int)) = false := by simp; omega
  have hz1 : ((Z.length : Int) == 1) = true := by rw [hz.out]; rfl
  go_enter Try.func7, Try.ntmps7
  go_wp2_with (first
      | (go_at_call 8; refine (awake_any _).mono ?_; rintro e w1 ⟨rfl, hb⟩)
      | (go_at_call 9; with_reducible refine (cA.out _).mono ?_; rintro e w2 ⟨rfl, hb'⟩; have hb := hb.trans (hb'.mono hb.size); clear hb')
      | (go_at_call 9; with_reducible refine (cB.out _).mono ?_; rintro e w2 ⟨rfl, hb'⟩; have hb := hb.trans (hb'.mono hb.size); clear hb')
      | (go_at_call 11; with_reducible refine (cS.out _).mono ?_; rintro e w2 ⟨rfl, hb'⟩; have hb := hb.trans (hb'.mono hb.size); clear hb')
      | (go_at_call 18; with_reducible refine (lA.out _).mono ?_; rintro e w' ⟨rfl, rfl⟩)
      | (go_at_call 18; with_reducible refine (lB.out _).mono ?_; rintro e w' ⟨rfl, rfl⟩))
  go_ret
  exact ⟨ret_bool (by first | rfl | (simp; omega)), hb⟩
set_option maxHeartbeats 1000000 in
theorem walk_lt_low (a b : Nat) (c : Int) (X Y Z : List UInt8) (hla : X.length ≤ 10) (hlb : Y.length ≤ 10) (hlz : Z.length ≤ 10) (hab : a < b) (hle : X.length ≤ Y.length) (hXY : Hid (¬ X = Y)) (hEx : Hid (¬ Y.take X.length = X)) (f1 : c < -64) (hz : Hid (¬ Z.length = 1))
    (cA : Hid (∀ W : World, Calls Try.prog 9 #[.int .u64 a] W fun e w' => e = .returned (.string (bs X)) ∧ Below W.heap.size W w')) (cB : Hid (∀ W : World, Calls Try.prog 9 #[.int .u64 b] W fun e w' => e = .returned (.string (bs Y)) ∧ Below W.heap.size W w')) (cS : Hid (∀ W : World, Calls Try.prog 11 #[.int .i64 c] W fun e w' => e = .returned (.string (bs Z)) ∧ Below W.heap.size W w'))
    (lA : Hid (∀ W : World, Calls Try.prog 18 #[.int .u64 a] W fun e w' => e = .returned (.int .i64 X.length) ∧ W = w')) (lB : Hid (∀ W : World, Calls Try.prog 18 #[.int .u64 b] W fun e w' => e = .returned (.int .i64 Y.length) ∧ W = w')) (w : World) :
    Calls Try.prog 7 #[.int .u64 a, .int .u64 b, .int .i64 c] w fun e w' => e = .returned (.bool true) ∧ Below w.heap.size w w' := by
  have hbl := bs_list
  have hbz := bs_size
  have hxy : (X == Y) = false := by simpa using hXY.out
  have hyx : (Y == X) = false := by rw [Bool.eq_false_iff]; intro h; exact hXY.out (by simpa using h : Y = X).symm
  have hex : (((bs Y).extract 0 X.length).toList == X) = false := by rw [Lib.extract_toList, bs_toList, List.drop_zero, Nat.sub_zero]; simpa using hEx.out
  have hex2 : (((bs Y).extract 0 X.length).toList != X) = true := by rw [bne, hex]; rfl
  have e1 : ((a : Int) == (b : Int)) = false := by simp; omega
  have hz1 : ((Z.length : Int) == 1) = false := by have := hz.out; simp; omega
  have f1' : ¬ -64 ≤ c := by omega
  go_enter Try.func7, Try.ntmps7
  go_wp2_with (first
      | (go_at_call 8; refine (awake_any _).mono ?_; rintro e w1 ⟨rfl, hb⟩)
      | (go_at_call 9; with_reducible refine (cA.out _).mono ?_; rintro e w2 ⟨rfl, hb'⟩; have hb := hb.trans (hb'.mono hb.size); clear hb')
      | (go_at_call 9; with_reducible refine (cB.out _).mono ?_; rintro e w2 ⟨rfl, hb'⟩; have hb := hb.trans (hb'.mono hb.size); clear hb')
      | (go_at_call 11; with_reducible refine (cS.out _).mono ?_; rintro e w2 ⟨rfl, hb'⟩; have hb := hb.trans (hb'.mono hb.size); clear hb')
      | (go_at_call 18; with_reducible refine (lA.out _).mono ?_; rintro e w' ⟨rfl, rfl⟩)
      | (go_at_call 18; with_reducible refine (lB.out _).mono ?_; rintro e w' ⟨rfl, rfl⟩))
  go_ret
  exact ⟨ret_bool (by first | rfl | (simp; omega)), hb⟩
set_option maxHeartbeats 1000000 in
theorem walk_lt_high (a b : Nat) (c : Int) (X Y Z : List UInt8) (hla : X.length ≤ 10) (hlb : Y.length ≤ 10) (hlz : Z.length ≤ 10) (hab : a < b) (hle : X.length ≤ Y.length) (hXY : Hid (¬ X = Y)) (hEx : Hid (¬ Y.take X.length = X)) (f1 : -64 ≤ c) (f2 : 64 ≤ c) (hz : Hid (¬ Z.length = 1))
    (cA : Hid (∀ W : World, Calls Try.prog 9 #[.int .u64 a] W fun e w' => e = .returned (.string (bs X)) ∧ Below W.heap.size W w')) (cB : Hid (∀ W : World, Calls Try.prog 9 #[.int .u64 b] W fun e w' => e = .returned (.string (bs Y)) ∧ Below W.heap.size W w')) (cS : Hid (∀ W : World, Calls Try.prog 11 #[.int .i64 c] W fun e w' => e = .returned (.string (bs Z)) ∧ Below W.heap.size W w'))
    (lA : Hid (∀ W : World, Calls Try.prog 18 #[.int .u64 a] W fun e w' => e = .returned (.int .i64 X.length) ∧ W = w')) (lB : Hid (∀ W : World, Calls Try.prog 18 #[.int .u64 b] W fun e w' => e = .returned (.int .i64 Y.length) ∧ W = w')) (w : World) :
    Calls Try.prog 7 #[.int .u64 a, .int .u64 b, .int .i64 c] w fun e w' => e = .returned (.bool true) ∧ Below w.heap.size w w' := by
  have hbl := bs_list
  have hbz := bs_size
  have hxy : (X == Y) = false := by simpa using hXY.out
  have hyx : (Y == X) = false := by rw [Bool.eq_false_iff]; intro h; exact hXY.out (by simpa using h : Y = X).symm
  have hex : (((bs Y).extract 0 X.length).toList == X) = false := by rw [Lib.extract_toList, bs_toList, List.drop_zero, Nat.sub_zero]; simpa using hEx.out
  have hex2 : (((bs Y).extract 0 X.length).toList != X) = true := by rw [bne, hex]; rfl
  have e1 : ((a : Int) == (b : Int)) = false := by simp; omega
  have hz1 : ((Z.length : Int) == 1) = false := by have := hz.out; simp; omega
  have f2' : ¬ c < 64 := by omega
  go_enter Try.func7, Try.ntmps7
  go_wp2_with (first
      | (go_at_call 8; refine (awake_any _).mono ?_; rintro e w1 ⟨rfl, hb⟩)
      | (go_at_call 9; with_reducible refine (cA.out _).mono ?_; rintro e w2 ⟨rfl, hb'⟩; have hb := hb.trans (hb'.mono hb.size); clear hb')
      | (go_at_call 9; with_reducible refine (cB.out _).mono ?_; rintro e w2 ⟨rfl, hb'⟩; have hb := hb.trans (hb'.mono hb.size); clear hb')
      | (go_at_call 11; with_reducible refine (cS.out _).mono ?_; rintro e w2 ⟨rfl, hb'⟩; have hb := hb.trans (hb'.mono hb.size); clear hb')
      | (go_at_call 18; with_reducible refine (lA.out _).mono ?_; rintro e w' ⟨rfl, rfl⟩)
      | (go_at_call 18; with_reducible refine (lB.out _).mono ?_; rintro e w' ⟨rfl, rfl⟩))
  go_ret
  exact ⟨ret_bool (by first | rfl | (simp; omega)), hb⟩
set_option maxHeartbeats 1000000 in
theorem walk_gtl_in (a b : Nat) (c : Int) (X Y Z : List UInt8) (hla : X.length ≤ 10) (hlb : Y.length ≤ 10) (hlz : Z.length ≤ 10) (hab : b < a) (hle : Y.length < X.length) (hXY : Hid (¬ X = Y)) (hEx : Hid (¬ Y.take X.length = X)) (f1 : -64 ≤ c) (f2 : c < 64) (hz : Hid (Z.length = 1))
    (cA : Hid (∀ W : World, Calls Try.prog 9 #[.int .u64 a] W fun e w' => e = .returned (.string (bs X)) ∧ Below W.heap.size W w')) (cB : Hid (∀ W : World, Calls Try.prog 9 #[.int .u64 b] W fun e w' => e = .returned (.string (bs Y)) ∧ Below W.heap.size W w')) (cS : Hid (∀ W : World, Calls Try.prog 11 #[.int .i64 c] W fun e w' => e = .returned (.string (bs Z)) ∧ Below W.heap.size W w'))
    (lA : Hid (∀ W : World, Calls Try.prog 18 #[.int .u64 a] W fun e w' => e = .returned (.int .i64 X.length) ∧ W = w')) (lB : Hid (∀ W : World, Calls Try.prog 18 #[.int .u64 b] W fun e w' => e = .returned (.int .i64 Y.length) ∧ W = w')) (w : World) :
    Calls Try.prog 7 #[.int .u64 a, .int .u64 b, .int .i64 c] w fun e w' => e = .returned (.bool true) ∧ Below w.heap.size w w' := by
  have hbl := bs_list
  have hbz := bs_size
  have hxy : (X == Y) = false := by simpa using hXY.out
  have hyx : (Y == X) = false := by rw [Bool.eq_false_iff]; intro h; exact hXY.out (by simpa using h : Y = X).symm
  have hex : (((bs Y).extract 0 X.length).toList == X) = false := by rw [Lib.extract_toList, bs_toList, List.drop_zero, Nat.sub_zero]; simpa using hEx.out
  have hex2 : (((bs Y).extract 0 X.length).toList != X) = true := by rw [bne, hex]; rfl
  have e1 : ((a : Int) == (b : Int)) = false := by simp; omega
  have hz1 : ((Z.length : Int) == 1) = true := by rw [hz.out]; rfl
  go_enter Try.func7, Try.ntmps7
  go_wp2_with (first
      | (go_at_call 8; refine (awake_any _).mono ?_; rintro e w1 ⟨rfl, hb⟩)
      | (go_at_call 9; with_reducible refine (cA.out _).mono ?_; rintro e w2 ⟨rfl, hb'⟩; have hb := hb.trans (hb'.mono hb.size); clear hb')
      | (go_at_call 9; with_reducible refine (cB.out _).mono ?_; rintro e w2 ⟨rfl, hb'⟩; have hb := hb.trans (hb'.mono hb.size); clear hb')
      | (go_at_call 11; with_reducible refine (cS.out _).mono ?_; rintro e w2 ⟨rfl, hb'⟩; have hb := hb.trans (hb'.mono hb.size); clear hb')
      | (go_at_call 18; with_reducible refine (lA.out _).mono ?_; rintro e w' ⟨rfl, rfl⟩)
      | (go_at_call 18; with_reducible refine (lB.out _).mono ?_; rintro e w' ⟨rfl, rfl⟩))
  go_ret
  exact ⟨ret_bool (by first | rfl | (simp; omega)), hb⟩
set_option maxHeartbeats 1000000 in
theorem walk_gtl_low (a b : Nat) (c : Int) (X Y Z : List UInt8) (hla : X.length ≤ 10) (hlb : Y.length ≤ 10) (hlz : Z.length ≤ 10) (hab : b < a) (hle : Y.length < X.length) (hXY : Hid (¬ X = Y)) (hEx : Hid (¬ Y.take X.length = X)) (f1 : c < -64) (hz : Hid (¬ Z.length = 1))
    (cA : Hid (∀ W : World, Calls Try.prog 9 #[.int .u64 a] W fun e w' => e = .returned (.string (bs X)) ∧ Below W.heap.size W w')) (cB : Hid (∀ W : World, Calls Try.prog 9 #[.int .u64 b] W fun e w' => e = .returned (.string (bs Y)) ∧ Below W.heap.size W w')) (cS : Hid (∀ W : World, Calls Try.prog 11 #[.int .i64 c] W fun e w' => e = .returned (.string (bs Z)) ∧ Below W.heap.size W w'))
    (lA : Hid (∀ W : World, Calls Try.prog 18 #[.int .u64 a] W fun e w' => e = .returned (.int .i64 X.length) ∧ W = w')) (lB : Hid (∀ W : World, Calls Try.prog 18 #[.int .u64 b] W fun e w' => e = .returned (.int .i64 Y.length) ∧ W = w')) (w : World) :
    Calls Try.prog 7 #[.int .u64 a, .int .u64 b, .int .i64 c] w fun e w' => e = .returned (.bool true) ∧ Below w.heap.size w w' := by
  have hbl := bs_list
  have hbz := bs_size
  have hxy : (X == Y) = false := by simpa using hXY.out
  have hyx : (Y == X) = false := by rw [Bool.eq_false_iff]; intro h; exact hXY.out (by simpa using h : Y = X).symm
  have hex : (((bs Y).extract 0 X.length).toList == X) = false := by rw [Lib.extract_toList, bs_toList, List.drop_zero, Nat.sub_zero]; simpa using hEx.out
  have hex2 : (((bs Y).extract 0 X.length).toList != X) = true := by rw [bne, hex]; rfl
  have e1 : ((a : Int) == (b : Int)) = false := by simp; omega
  have hz1 : ((Z.length : Int) == 1) = false := by have := hz.out; simp; omega
  have f1' : ¬ -64 ≤ c := by omega
  go_enter Try.func7, Try.ntmps7
  go_wp2_with (first
      | (go_at_call 8; refine (awake_any _).mono ?_; rintro e w1 ⟨rfl, hb⟩)
      | (go_at_call 9; with_reducible refine (cA.out _).mono ?_; rintro e w2 ⟨rfl, hb'⟩; have hb := hb.trans (hb'.mono hb.size); clear hb')
      | (go_at_call 9; with_reducible refine (cB.out _).mono ?_; rintro e w2 ⟨rfl, hb'⟩; have hb := hb.trans (hb'.mono hb.size); clear hb')
      | (go_at_call 11; with_reducible refine (cS.out _).mono ?_; rintro e w2 ⟨rfl, hb'⟩; have hb := hb.trans (hb'.mono hb.size); clear hb')
      | (go_at_call 18; with_reducible refine (lA.out _).mono ?_; rintro e w' ⟨rfl, rfl⟩)
      | (go_at_call 18; with_reducible refine (lB.out _).mono ?_; rintro e w' ⟨rfl, rfl⟩))
  go_ret
  exact ⟨ret_bool (by first | rfl | (simp; omega)), hb⟩
set_option maxHeartbeats 1000000 in
theorem walk_gtl_high (a b : Nat) (c : Int) (X Y Z : List UInt8) (hla : X.length ≤ 10) (hlb : Y.length ≤ 10) (hlz : Z.length ≤ 10) (hab : b < a) (hle : Y.length < X.length) (hXY : Hid (¬ X = Y)) (hEx : Hid (¬ Y.take X.length = X)) (f1 : -64 ≤ c) (f2 : 64 ≤ c) (hz : Hid (¬ Z.length = 1))
    (cA : Hid (∀ W : World, Calls Try.prog 9 #[.int .u64 a] W fun e w' => e = .returned (.string (bs X)) ∧ Below W.heap.size W w')) (cB : Hid (∀ W : World, Calls Try.prog 9 #[.int .u64 b] W fun e w' => e = .returned (.string (bs Y)) ∧ Below W.heap.size W w')) (cS : Hid (∀ W : World, Calls Try.prog 11 #[.int .i64 c] W fun e w' => e = .returned (.string (bs Z)) ∧ Below W.heap.size W w'))
    (lA : Hid (∀ W : World, Calls Try.prog 18 #[.int .u64 a] W fun e w' => e = .returned (.int .i64 X.length) ∧ W = w')) (lB : Hid (∀ W : World, Calls Try.prog 18 #[.int .u64 b] W fun e w' => e = .returned (.int .i64 Y.length) ∧ W = w')) (w : World) :
    Calls Try.prog 7 #[.int .u64 a, .int .u64 b, .int .i64 c] w fun e w' => e = .returned (.bool true) ∧ Below w.heap.size w w' := by
  have hbl := bs_list
  have hbz := bs_size
  have hxy : (X == Y) = false := by simpa using hXY.out
  have hyx : (Y == X) = false := by rw [Bool.eq_false_iff]; intro h; exact hXY.out (by simpa using h : Y = X).symm
  have hex : (((bs Y).extract 0 X.length).toList == X) = false := by rw [Lib.extract_toList, bs_toList, List.drop_zero, Nat.sub_zero]; simpa using hEx.out
  have hex2 : (((bs Y).extract 0 X.length).toList != X) = true := by rw [bne, hex]; rfl
  have e1 : ((a : Int) == (b : Int)) = false := by simp; omega
  have hz1 : ((Z.length : Int) == 1) = false := by have := hz.out; simp; omega
  have f2' : ¬ c < 64 := by omega
  go_enter Try.func7, Try.ntmps7
  go_wp2_with (first
      | (go_at_call 8; refine (awake_any _).mono ?_; rintro e w1 ⟨rfl, hb⟩)
      | (go_at_call 9; with_reducible refine (cA.out _).mono ?_; rintro e w2 ⟨rfl, hb'⟩; have hb := hb.trans (hb'.mono hb.size); clear hb')
      | (go_at_call 9; with_reducible refine (cB.out _).mono ?_; rintro e w2 ⟨rfl, hb'⟩; have hb := hb.trans (hb'.mono hb.size); clear hb')
      | (go_at_call 11; with_reducible refine (cS.out _).mono ?_; rintro e w2 ⟨rfl, hb'⟩; have hb := hb.trans (hb'.mono hb.size); clear hb')
      | (go_at_call 18; with_reducible refine (lA.out _).mono ?_; rintro e w' ⟨rfl, rfl⟩)
      | (go_at_call 18; with_reducible refine (lB.out _).mono ?_; rintro e w' ⟨rfl, rfl⟩))
  go_ret
  exact ⟨ret_bool (by first | rfl | (simp; omega)), hb⟩
set_option maxHeartbeats 1000000 in
theorem walk_gte_in (a b : Nat) (c : Int) (X Y Z : List UInt8) (hla : X.length ≤ 10) (hlb : Y.length ≤ 10) (hlz : Z.length ≤ 10) (hab : b < a) (hle : Y.length = X.length) (hXY : Hid (¬ X = Y)) (hEx : Hid (¬ Y.take X.length = X)) (f1 : -64 ≤ c) (f2 : c < 64) (hz : Hid (Z.length = 1))
    (cA : Hid (∀ W : World, Calls Try.prog 9 #[.int .u64 a] W fun e w' => e = .returned (.string (bs X)) ∧ Below W.heap.size W w')) (cB : Hid (∀ W : World, Calls Try.prog 9 #[.int .u64 b] W fun e w' => e = .returned (.string (bs Y)) ∧ Below W.heap.size W w')) (cS : Hid (∀ W : World, Calls Try.prog 11 #[.int .i64 c] W fun e w' => e = .returned (.string (bs Z)) ∧ Below W.heap.size W w'))
    (lA : Hid (∀ W : World, Calls Try.prog 18 #[.int .u64 a] W fun e w' => e = .returned (.int .i64 X.length) ∧ W = w')) (lB : Hid (∀ W : World, Calls Try.prog 18 #[.int .u64 b] W fun e w' => e = .returned (.int .i64 Y.length) ∧ W = w')) (w : World) :
    Calls Try.prog 7 #[.int .u64 a, .int .u64 b, .int .i64 c] w fun e w' => e = .returned (.bool true) ∧ Below w.heap.size w w' := by
  have hbl := bs_list
  have hbz := bs_size
  have hxy : (X == Y) = false := by simpa using hXY.out
  have hyx : (Y == X) = false := by rw [Bool.eq_false_iff]; intro h; exact hXY.out (by simpa using h : Y = X).symm
  have hex : (((bs Y).extract 0 X.length).toList == X) = false := by rw [Lib.extract_toList, bs_toList, List.drop_zero, Nat.sub_zero]; simpa using hEx.out
  have hex2 : (((bs Y).extract 0 X.length).toList != X) = true := by rw [bne, hex]; rfl
  have e1 : ((a : Int) == (b : Int)) = false := by simp; omega
  have hle' : X.length ≤ Y.length := by omega
  have hle2 : ¬ Y.length < X.length := by omega
  have HLE := Lib.hid hle
  clear hle
  have hz1 : ((Z.length : Int) == 1) = true := by rw [hz.out]; rfl
  go_enter Try.func7, Try.ntmps7
  go_wp2_with (first
      | (go_at_call 8; refine (awake_any _).mono ?_; rintro e w1 ⟨rfl, hb⟩)
      | (go_at_call 9; with_reducible refine (cA.out _).mono ?_; rintro e w2 ⟨rfl, hb'⟩; have hb := hb.trans (hb'.mono hb.size); clear hb')
      | (go_at_call 9; with_reducible refine (cB.out _).mono ?_; rintro e w2 ⟨rfl, hb'⟩; have hb := hb.trans (hb'.mono hb.size); clear hb')
      | (go_at_call 11; with_reducible refine (cS.out _).mono ?_; rintro e w2 ⟨rfl, hb'⟩; have hb := hb.trans (hb'.mono hb.size); clear hb')
      | (go_at_call 18; with_reducible refine (lA.out _).mono ?_; rintro e w' ⟨rfl, rfl⟩)
      | (go_at_call 18; with_reducible refine (lB.out _).mono ?_; rintro e w' ⟨rfl, rfl⟩))
  go_ret
  exact ⟨ret_bool (by first | rfl | (simp; omega)), hb⟩
set_option maxHeartbeats 1000000 in
theorem walk_gte_low (a b : Nat) (c : Int) (X Y Z : List UInt8) (hla : X.length ≤ 10) (hlb : Y.length ≤ 10) (hlz : Z.length ≤ 10) (hab : b < a) (hle : Y.length = X.length) (hXY : Hid (¬ X = Y)) (hEx : Hid (¬ Y.take X.length = X)) (f1 : c < -64) (hz : Hid (¬ Z.length = 1))
    (cA : Hid (∀ W : World, Calls Try.prog 9 #[.int .u64 a] W fun e w' => e = .returned (.string (bs X)) ∧ Below W.heap.size W w')) (cB : Hid (∀ W : World, Calls Try.prog 9 #[.int .u64 b] W fun e w' => e = .returned (.string (bs Y)) ∧ Below W.heap.size W w')) (cS : Hid (∀ W : World, Calls Try.prog 11 #[.int .i64 c] W fun e w' => e = .returned (.string (bs Z)) ∧ Below W.heap.size W w'))
    (lA : Hid (∀ W : World, Calls Try.prog 18 #[.int .u64 a] W fun e w' => e = .returned (.int .i64 X.length) ∧ W = w')) (lB : Hid (∀ W : World, Calls Try.prog 18 #[.int .u64 b] W fun e w' => e = .returned (.int .i64 Y.length) ∧ W = w')) (w : World) :
    Calls Try.prog 7 #[.int .u64 a, .int .u64 b, .int .i64 c] w fun e w' => e = .returned (.bool true) ∧ Below w.heap.size w w' := by
  have hbl := bs_list
  have hbz := bs_size
  have hxy : (X == Y) = false := by simpa using hXY.out
  have hyx : (Y == X) = false := by rw [Bool.eq_false_iff]; intro h; exact hXY.out (by simpa using h : Y = X).symm
  have hex : (((bs Y).extract 0 X.length).toList == X) = false := by rw [Lib.extract_toList, bs_toList, List.drop_zero, Nat.sub_zero]; simpa using hEx.out
  have hex2 : (((bs Y).extract 0 X.length).toList != X) = true := by rw [bne, hex]; rfl
  have e1 : ((a : Int) == (b : Int)) = false := by simp; omega
  have hle' : X.length ≤ Y.length := by omega
  have hle2 : ¬ Y.length < X.length := by omega
  have HLE := Lib.hid hle
  clear hle
  have hz1 : ((Z.length : Int) == 1) = false := by have := hz.out; simp; omega
  have f1' : ¬ -64 ≤ c := by omega
  go_enter Try.func7, Try.ntmps7
  go_wp2_with (first
      | (go_at_call 8; refine (awake_any _).mono ?_; rintro e w1 ⟨rfl, hb⟩)
      | (go_at_call 9; with_reducible refine (cA.out _).mono ?_; rintro e w2 ⟨rfl, hb'⟩; have hb := hb.trans (hb'.mono hb.size); clear hb')
      | (go_at_call 9; with_reducible refine (cB.out _).mono ?_; rintro e w2 ⟨rfl, hb'⟩; have hb := hb.trans (hb'.mono hb.size); clear hb')
      | (go_at_call 11; with_reducible refine (cS.out _).mono ?_; rintro e w2 ⟨rfl, hb'⟩; have hb := hb.trans (hb'.mono hb.size); clear hb')
      | (go_at_call 18; with_reducible refine (lA.out _).mono ?_; rintro e w' ⟨rfl, rfl⟩)
      | (go_at_call 18; with_reducible refine (lB.out _).mono ?_; rintro e w' ⟨rfl, rfl⟩))
  go_ret
  exact ⟨ret_bool (by first | rfl | (simp; omega)), hb⟩
set_option maxHeartbeats 1000000 in
theorem walk_gte_high (a b : Nat) (c : Int) (X Y Z : List UInt8) (hla : X.length ≤ 10) (hlb : Y.length ≤ 10) (hlz : Z.length ≤ 10) (hab : b < a) (hle : Y.length = X.length) (hXY : Hid (¬ X = Y)) (hEx : Hid (¬ Y.take X.length = X)) (f1 : -64 ≤ c) (f2 : 64 ≤ c) (hz : Hid (¬ Z.length = 1))
    (cA : Hid (∀ W : World, Calls Try.prog 9 #[.int .u64 a] W fun e w' => e = .returned (.string (bs X)) ∧ Below W.heap.size W w')) (cB : Hid (∀ W : World, Calls Try.prog 9 #[.int .u64 b] W fun e w' => e = .returned (.string (bs Y)) ∧ Below W.heap.size W w')) (cS : Hid (∀ W : World, Calls Try.prog 11 #[.int .i64 c] W fun e w' => e = .returned (.string (bs Z)) ∧ Below W.heap.size W w'))
    (lA : Hid (∀ W : World, Calls Try.prog 18 #[.int .u64 a] W fun e w' => e = .returned (.int .i64 X.length) ∧ W = w')) (lB : Hid (∀ W : World, Calls Try.prog 18 #[.int .u64 b] W fun e w' => e = .returned (.int .i64 Y.length) ∧ W = w')) (w : World) :
    Calls Try.prog 7 #[.int .u64 a, .int .u64 b, .int .i64 c] w fun e w' => e = .returned (.bool true) ∧ Below w.heap.size w w' := by
  have hbl := bs_list
  have hbz := bs_size
  have hxy : (X == Y) = false := by simpa using hXY.out
  have hyx : (Y == X) = false := by rw [Bool.eq_false_iff]; intro h; exact hXY.out (by simpa using h : Y = X).symm
  have hex : (((bs Y).extract 0 X.length).toList == X) = false := by rw [Lib.extract_toList, bs_toList, List.drop_zero, Nat.sub_zero]; simpa using hEx.out
  have hex2 : (((bs Y).extract 0 X.length).toList != X) = true := by rw [bne, hex]; rfl
  have e1 : ((a : Int) == (b : Int)) = false := by simp; omega
  have hle' : X.length ≤ Y.length := by omega
  have hle2 : ¬ Y.length < X.length := by omega
  have HLE := Lib.hid hle
  clear hle
  have hz1 : ((Z.length : Int) == 1) = false := by have := hz.out; simp; omega
  have f2' : ¬ c < 64 := by omega
  go_enter Try.func7, Try.ntmps7
  go_wp2_with (first
      | (go_at_call 8; refine (awake_any _).mono ?_; rintro e w1 ⟨rfl, hb⟩)
      | (go_at_call 9; with_reducible refine (cA.out _).mono ?_; rintro e w2 ⟨rfl, hb'⟩; have hb := hb.trans (hb'.mono hb.size); clear hb')
      | (go_at_call 9; with_reducible refine (cB.out _).mono ?_; rintro e w2 ⟨rfl, hb'⟩; have hb := hb.trans (hb'.mono hb.size); clear hb')
      | (go_at_call 11; with_reducible refine (cS.out _).mono ?_; rintro e w2 ⟨rfl, hb'⟩; have hb := hb.trans (hb'.mono hb.size); clear hb')
      | (go_at_call 18; with_reducible refine (lA.out _).mono ?_; rintro e w' ⟨rfl, rfl⟩)
      | (go_at_call 18; with_reducible refine (lB.out _).mono ?_; rintro e w' ⟨rfl, rfl⟩))
  go_ret
  exact ⟨ret_bool (by first | rfl | (simp; omega)), hb⟩
set_option maxHeartbeats 1000000 in
theorem walk_eq_in (a b : Nat) (c : Int) (X Y Z : List UInt8) (hla : X.length ≤ 10) (hlb : Y.length ≤ 10) (hlz : Z.length ≤ 10) (hab : a = b) (hXY : X = Y) (f1 : -64 ≤ c) (f2 : c < 64) (hz : Hid (Z.length = 1))
    (cA : Hid (∀ W : World, Calls Try.prog 9 #[.int .u64 a] W fun e w' => e = .returned (.string (bs X)) ∧ Below W.heap.size W w')) (cB : Hid (∀ W : World, Calls Try.prog 9 #[.int .u64 b] W fun e w' => e = .returned (.string (bs Y)) ∧ Below W.heap.size W w')) (cS : Hid (∀ W : World, Calls Try.prog 11 #[.int .i64 c] W fun e w' => e = .returned (.string (bs Z)) ∧ Below W.heap.size W w'))
    (lA : Hid (∀ W : World, Calls Try.prog 18 #[.int .u64 a] W fun e w' => e = .returned (.int .i64 X.length) ∧ W = w')) (lB : Hid (∀ W : World, Calls Try.prog 18 #[.int .u64 b] W fun e w' => e = .returned (.int .i64 Y.length) ∧ W = w')) (w : World) :
    Calls Try.prog 7 #[.int .u64 a, .int .u64 b, .int .i64 c] w fun e w' => e = .returned (.bool true) ∧ Below w.heap.size w w' := by
  have hbl := bs_list
  have hbz := bs_size
  subst hab hXY
  have hz1 : ((Z.length : Int) == 1) = true := by rw [hz.out]; rfl
  go_enter Try.func7, Try.ntmps7
  go_wp2_with (first
      | (go_at_call 8; refine (awake_any _).mono ?_; rintro e w1 ⟨rfl, hb⟩)
      | (go_at_call 9; with_reducible refine (cA.out _).mono ?_; rintro e w2 ⟨rfl, hb'⟩; have hb := hb.trans (hb'.mono hb.size); clear hb')
      | (go_at_call 9; with_reducible refine (cB.out _).mono ?_; rintro e w2 ⟨rfl, hb'⟩; have hb := hb.trans (hb'.mono hb.size); clear hb')
      | (go_at_call 11; with_reducible refine (cS.out _).mono ?_; rintro e w2 ⟨rfl, hb'⟩; have hb := hb.trans (hb'.mono hb.size); clear hb')
      | (go_at_call 18; with_reducible refine (lA.out _).mono ?_; rintro e w' ⟨rfl, rfl⟩)
      | (go_at_call 18; with_reducible refine (lB.out _).mono ?_; rintro e w' ⟨rfl, rfl⟩))
  go_ret
  exact ⟨ret_bool (by first | rfl | (simp; omega)), hb⟩
set_option maxHeartbeats 1000000 in
theorem walk_eq_low (a b : Nat) (c : Int) (X Y Z : List UInt8) (hla : X.length ≤ 10) (hlb : Y.length ≤ 10) (hlz : Z.length ≤ 10) (hab : a = b) (hXY : X = Y) (f1 : c < -64) (hz : Hid (¬ Z.length = 1))
    (cA : Hid (∀ W : World, Calls Try.prog 9 #[.int .u64 a] W fun e w' => e = .returned (.string (bs X)) ∧ Below W.heap.size W w')) (cB : Hid (∀ W : World, Calls Try.prog 9 #[.int .u64 b] W fun e w' => e = .returned (.string (bs Y)) ∧ Below W.heap.size W w')) (cS : Hid (∀ W : World, Calls Try.prog 11 #[.int .i64 c] W fun e w' => e = .returned (.string (bs Z)) ∧ Below W.heap.size W w'))
    (lA : Hid (∀ W : World, Calls Try.prog 18 #[.int .u64 a] W fun e w' => e = .returned (.int .i64 X.length) ∧ W = w')) (lB : Hid (∀ W : World, Calls Try.prog 18 #[.int .u64 b] W fun e w' => e = .returned (.int .i64 Y.length) ∧ W = w')) (w : World) :
    Calls Try.prog 7 #[.int .u64 a, .int .u64 b, .int .i64 c] w fun e w' => e = .returned (.bool true) ∧ Below w.heap.size w w' := by
  have hbl := bs_list
  have hbz := bs_size
  subst hab hXY
  have hz1 : ((Z.length : Int) == 1) = false := by have := hz.out; simp; omega
  have f1' : ¬ -64 ≤ c := by omega
  go_enter Try.func7, Try.ntmps7
  go_wp2_with (first
      | (go_at_call 8; refine (awake_any _).mono ?_; rintro e w1 ⟨rfl, hb⟩)
      | (go_at_call 9; with_reducible refine (cA.out _).mono ?_; rintro e w2 ⟨rfl, hb'⟩; have hb := hb.trans (hb'.mono hb.size); clear hb')
      | (go_at_call 9; with_reducible refine (cB.out _).mono ?_; rintro e w2 ⟨rfl, hb'⟩; have hb := hb.trans (hb'.mono hb.size); clear hb')
      | (go_at_call 11; with_reducible refine (cS.out _).mono ?_; rintro e w2 ⟨rfl, hb'⟩; have hb := hb.trans (hb'.mono hb.size); clear hb')
      | (go_at_call 18; with_reducible refine (lA.out _).mono ?_; rintro e w' ⟨rfl, rfl⟩)
      | (go_at_call 18; with_reducible refine (lB.out _).mono ?_; rintro e w' ⟨rfl, rfl⟩))
  go_ret
  exact ⟨ret_bool (by first | rfl | (simp; omega)), hb⟩
set_option maxHeartbeats 1000000 in
theorem walk_eq_high (a b : Nat) (c : Int) (X Y Z : List UInt8) (hla : X.length ≤ 10) (hlb : Y.length ≤ 10) (hlz : Z.length ≤ 10) (hab : a = b) (hXY : X = Y) (f1 : -64 ≤ c) (f2 : 64 ≤ c) (hz : Hid (¬ Z.length = 1))
    (cA : Hid (∀ W : World, Calls Try.prog 9 #[.int .u64 a] W fun e w' => e = .returned (.string (bs X)) ∧ Below W.heap.size W w')) (cB : Hid (∀ W : World, Calls Try.prog 9 #[.int .u64 b] W fun e w' => e = .returned (.string (bs Y)) ∧ Below W.heap.size W w')) (cS : Hid (∀ W : World, Calls Try.prog 11 #[.int .i64 c] W fun e w' => e = .returned (.string (bs Z)) ∧ Below W.heap.size W w'))
    (lA : Hid (∀ W : World, Calls Try.prog 18 #[.int .u64 a] W fun e w' => e = .returned (.int .i64 X.length) ∧ W = w')) (lB : Hid (∀ W : World, Calls Try.prog 18 #[.int .u64 b] W fun e w' => e = .returned (.int .i64 Y.length) ∧ W = w')) (w : World) :
    Calls Try.prog 7 #[.int .u64 a, .int .u64 b, .int .i64 c] w fun e w' => e = .returned (.bool true) ∧ Below w.heap.size w w' := by
  have hbl := bs_list
  have hbz := bs_size
  subst hab hXY
  have hz1 : ((Z.length : Int) == 1) = false := by have := hz.out; simp; omega
  have f2' : ¬ c < 64 := by omega
  go_enter Try.func7, Try.ntmps7
  go_wp2_with (first
      | (go_at_call 8; refine (awake_any _).mono ?_; rintro e w1 ⟨rfl, hb⟩)
      | (go_at_call 9; with_reducible refine (cA.out _).mono ?_; rintro e w2 ⟨rfl, hb'⟩; have hb := hb.trans (hb'.mono hb.size); clear hb')
      | (go_at_call 9; with_reducible refine (cB.out _).mono ?_; rintro e w2 ⟨rfl, hb'⟩; have hb := hb.trans (hb'.mono hb.size); clear hb')
      | (go_at_call 11; with_reducible refine (cS.out _).mono ?_; rintro e w2 ⟨rfl, hb'⟩; have hb := hb.trans (hb'.mono hb.size); clear hb')
      | (go_at_call 18; with_reducible refine (lA.out _).mono ?_; rintro e w' ⟨rfl, rfl⟩)
      | (go_at_call 18; with_reducible refine (lB.out _).mono ?_; rintro e w' ⟨rfl, rfl⟩))
  go_ret
  exact ⟨ret_bool (by first | rfl | (simp; omega)), hb⟩
theorem take_ne {a b : Nat} (h : ¬ a = b) : ¬ (vnum b).take (vnum a).length = vnum a := fun e =>
  h (vnum_begins a b ((vnum b).drop (vnum a).length) (by
    have := List.take_append_drop (vnum a).length (vnum b)
    rw [e] at this; exact this.symm)).1
theorem walk (a : Nat) (ha : a < 18446744073709551616) (b : Nat) (hb0 : b < 18446744073709551616) (c : Int) (hc1 : -9223372036854775808 ≤ c) (hc2 : c ≤ 9223372036854775807) (w : World) :
    Calls Try.prog 7 #[.int .u64 a, .int .u64 b, .int .i64 c] w fun e w' => e = .returned (.bool true) ∧ Below w.heap.size w w' := by
  have la := vnum_len10 ha
  have lb := vnum_len10 hb0
  have lz := vnum_len10 (zig_lt hc1 hc2)
  have hz := (vnum_one (zig c)).trans (zig_few c)
  have cA := num_any a ha
  have cB := num_any b hb0
  have cS := signed_any c hc1 hc2
  have lA := len_any a ha
  have lB := len_any b hb0
  have hne : ¬ a = b → ¬ vnum a = vnum b := fun h e => h (vnum_inj e)
  by_cases h1 : a < b
  · have hle := vnum_mono a b (by omega)
    by_cases f1 : -64 ≤ c
    · by_cases f2 : c < 64
      · exact walk_lt_in a b c _ _ _ la lb lz h1 hle (hne (by omega)) (take_ne (by omega)) f1 f2 (hz.2 ⟨f1, f2⟩) cA cB cS lA lB w
      · exact walk_lt_high a b c _ _ _ la lb lz h1 hle (hne (by omega)) (take_ne (by omega)) f1 (by omega) (fun e => f2 (hz.1 e).2) cA cB cS lA lB w
    · exact walk_lt_low a b c _ _ _ la lb lz h1 hle (hne (by omega)) (take_ne (by omega)) (by omega) (fun e => f1 (hz.1 e).1) cA cB cS lA lB w
  · by_cases h2 : b < a
    · have hle := vnum_mono b a (by omega)
      by_cases h3 : (vnum b).length < (vnum a).length
      · by_cases f1 : -64 ≤ c
        · by_cases f2 : c < 64
          · exact walk_gtl_in a b c _ _ _ la lb lz h2 h3 (hne (by omega)) (take_ne (by omega)) f1 f2 (hz.2 ⟨f1, f2⟩) cA cB cS lA lB w
          · exact walk_gtl_high a b c _ _ _ la lb lz h2 h3 (hne (by omega)) (take_ne (by omega)) f1 (by omega) (fun e => f2 (hz.1 e).2) cA cB cS lA lB w
        · exact walk_gtl_low a b c _ _ _ la lb lz h2 h3 (hne (by omega)) (take_ne (by omega)) (by omega) (fun e => f1 (hz.1 e).1) cA cB cS lA lB w
      · by_cases f1 : -64 ≤ c
        · by_cases f2 : c < 64
          · exact walk_gte_in a b c _ _ _ la lb lz h2 (by omega) (hne (by omega)) (take_ne (by omega)) f1 f2 (hz.2 ⟨f1, f2⟩) cA cB cS lA lB w
          · exact walk_gte_high a b c _ _ _ la lb lz h2 (by omega) (hne (by omega)) (take_ne (by omega)) f1 (by omega) (fun e => f2 (hz.1 e).2) cA cB cS lA lB w
        · exact walk_gte_low a b c _ _ _ la lb lz h2 (by omega) (hne (by omega)) (take_ne (by omega)) (by omega) (fun e => f1 (hz.1 e).1) cA cB cS lA lB w
    · have h3 : a = b := by omega
      have h4 : vnum a = vnum b := by rw [h3]
      by_cases f1 : -64 ≤ c
      · by_cases f2 : c < 64
        · exact walk_eq_in a b c _ _ _ la lb lz h3 h4 f1 f2 (hz.2 ⟨f1, f2⟩) cA cB cS lA lB w
        · exact walk_eq_high a b c _ _ _ la lb lz h3 h4 f1 (by omega) (fun e => f2 (hz.1 e).2) cA cB cS lA lB w
      · exact walk_eq_low a b c _ _ _ la lb lz h3 h4 (by omega) (fun e => f1 (hz.1 e).1) cA cB cS lA lB w

set_option maxRecDepth 100000 in
theorem lifted (os : Os) (started : os.Started) (H : Type) (enc : TypeId × Value → H) :
    ReturnsInHanded {} Try.checked os 7 .any (Rows.varintLensSpec.pre6 enc Try.prog Try.f7 Rows.varintLensRow.domain false) (Rows.varintLensSpec.post enc Try.prog Try.f7 false true false false) := by
  refine returnsInHanded_of_change (C := Try.checked) own started (by kernel_rfl) Try.func7
    (ChangeSpec.witness6 (enc := enc) (C := Try.checked) false ⟨#[], #[.int .u64 0, .int .u64 0, .int .i64 0], []⟩ 8 (by kernel_rfl) (by kernel_rfl) (by kernel_rfl) (by kernel_rfl)) ?_
  intro W base args ds gs before hval0 hW hcnd _
  have hval : ∀ (j : Nat) t v, Try.f7.params[j]? = some t → args[j]? = some v → Value.okWide Try.prog W .any base t v := hval0
  have hW' := hW
  obtain ⟨p, q, hA0, hV, rfl, hfz, hnd⟩ := hW
  have hA : DataW.TrodAll enc Try.prog W 0 (fun _ => true) true Try.f7.params.toList args.toList ds p := hA0
  rw [Try.params7] at hA hval
  obtain ⟨v0, vs0, d0, ds0, p0, q0, hargs, rfl, rfl, h0, r0⟩ := trodAll_cons hA
  obtain ⟨v1, vs1, d1, ds1, p1, q1, rfl, rfl, rfl, h1, r1⟩ := trodAll_cons r0
  obtain ⟨v2, vs2, d2, ds2, p2, q2, rfl, rfl, rfl, h2, r2⟩ := trodAll_cons r1
  obtain ⟨rfl, rfl, rfl⟩ := trodAll_nil r2
  obtain rfl : args = #[v0, v1, v2] := by cases args; simp_all
  obtain ⟨a0, rfl, rfl, rfl, w0⟩ := open_int Try.underlying22 (hval 0 22 v0 rfl rfl) h0
  obtain ⟨n0, rfl, m0⟩ := u64_nat w0
  obtain ⟨a1, rfl, rfl, rfl, w1⟩ := open_int Try.underlying22 (hval 1 22 v1 rfl rfl) h1
  obtain ⟨n1, rfl, m1⟩ := u64_nat w1
  obtain ⟨a2, rfl, rfl, rfl, w2⟩ := open_int Try.underlying2 (hval 2 2 v2 rfl rfl) h2
  obtain ⟨l2, m2⟩ := i64_bd w2
  refine (walk n0 m0 n1 m1 a2 l2 m2 W).mono fun e W' ⟨he, hb⟩ => ?_
  exact ⟨_, he, post_law hW' rfl rfl rfl (by rw [Try.params7]; decide +kernel) hb⟩

theorem proved : Rows.VarintLensSaid :=
  OpenClaim.holds_of_wide 7 Try.f7 rfl rfl rfl rfl rfl rfl rfl ⟨rfl, rfl, rfl, rfl, rfl⟩ rfl rfl rfl rfl rfl (by kernel_rfl) Try.func7 (by kernel_rfl)
    (of_decide_eq_true (by kernel_rfl)) (by unfold Func.isWrapper; first | (rw [if_pos (by decide +kernel)]; kernel_rfl) | (rw [if_neg (by decide +kernel)]; exact ⟨rfl, rfl⟩))
    (fun os started H enc _ => lifted os started H enc)
#print axioms proved
end Go.Proofs.Ytgpifihghklgfaa.varintLens
