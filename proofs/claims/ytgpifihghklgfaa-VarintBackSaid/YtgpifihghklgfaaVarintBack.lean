/-
  The law VarintBack returns true at every input. No condition.
-/
import Derived.Test.YtgpifihghklgfaaViAwake
namespace Go.Proofs.Ytgpifihghklgfaa.varintBack
open Go.ChangeShapes Go.WideShapes Go.ChangeAt Go.RowKit
open Go.ChangeMaps (open_string)
open Go.Proofs.Ytgpifihghklgfaa
open Vi


/-! what is written is read -/
theorem drop_mid (A C : List UInt8) : (A ++ C).drop A.length = C := by simp
theorem dNum_mid (A C : List UInt8) (n : Nat) (h : n < 18446744073709551616) : dNum (A ++ (vnum n ++ C)) A.length 0 = (n, A.length + (vnum n).length, 0) := by
  rw [dNum_ok, drop_mid, rnum_vnum h]; rfl
theorem dTake_mid (A M C : List UInt8) : dTake (A ++ (M ++ C)) A.length 0 (M.length : Int) = (M, A.length + M.length, 0) := by
  rw [dTake_ok (by omega) (by simp; omega), drop_mid]; simp
theorem dText_mid (A M C : List UInt8) (h : M.length < 18446744073709551616) : dText (A ++ ((vnum M.length ++ M) ++ C)) A.length 0 (M.length : Int) = (M, A.length + (vnum M.length ++ M).length, 0) := by
  rw [dText_eq, List.append_assoc, dNum_mid A (M ++ C) M.length h]
  rw [if_neg (by show ¬ max (M.length : Int) 0 < (M.length : Int); omega)]
  have := dTake_mid (A ++ vnum M.length) M C
  rw [List.length_append, List.append_assoc] at this
  rw [this]; simp [Nat.add_assoc]
set_option maxHeartbeats 2000000 in
set_option maxRecDepth 100000 in
theorem walk_good (n : Nat) (m : Int) (s t : ByteArray) (L1 L2 L3 L4 L5 X : List UInt8) (p1 p2 p3 p4 p5 x k : Nat) (hs : s.size ≤ 2000) (ht : t.size ≤ 2000) (l1 : L1.length ≤ 10) (l2 : L2.length ≤ 2010) (l3 : L3.length ≤ 10) (l4 : L4.length ≤ 4) (l5 : L5.length ≤ 8) (hk : k ≤ t.size)
    (cN : Hid (∀ W : World, Calls Try.prog 9 #[.int .u64 n] W fun e w' => e = .returned (.string (bs L1)) ∧ Below W.heap.size W w')) (cT : Hid (∀ W : World, Calls Try.prog 13 #[.string s] W fun e w' => e = .returned (.string (bs L2)) ∧ Below W.heap.size W w')) (cS : Hid (∀ W : World, Calls Try.prog 11 #[.int .i64 m] W fun e w' => e = .returned (.string (bs L3)) ∧ Below W.heap.size W w')) (cF : Hid (∀ W : World, Calls Try.prog 15 #[.int .u32 ((n : Int) % 4294967296)] W fun e w' => e = .returned (.string (bs L4)) ∧ Below W.heap.size W w')) (cW : Hid (∀ W : World, Calls Try.prog 17 #[.int .u64 n] W fun e w' => e = .returned (.string (bs L5)) ∧ Below W.heap.size W w'))
    (r1 : Hid (∀ (W : World) (a : Nat), RdAt 56 W a (bs (L1 ++ (L2 ++ (L3 ++ (L4 ++ L5))))) 0 0 → Calls Try.prog 33 #[.pointer (some ⟨a, 0, none⟩)] W (RdPost 56 W a (bs (L1 ++ (L2 ++ (L3 ++ (L4 ++ L5))))) (.int .u64 n) (p1, 0))))
    (r2 : Hid (∀ (W : World) (a : Nat), RdAt 56 W a (bs (L1 ++ (L2 ++ (L3 ++ (L4 ++ L5))))) p1 0 → Calls Try.prog 22 #[.pointer (some ⟨a, 0, none⟩), .int .i64 s.size] W (RdPost 56 W a (bs (L1 ++ (L2 ++ (L3 ++ (L4 ++ L5))))) (.string s) (p2, 0))))
    (r3 : Hid (∀ (W : World) (a : Nat), RdAt 56 W a (bs (L1 ++ (L2 ++ (L3 ++ (L4 ++ L5))))) p2 0 → Calls Try.prog 20 #[.pointer (some ⟨a, 0, none⟩)] W (RdPost 56 W a (bs (L1 ++ (L2 ++ (L3 ++ (L4 ++ L5))))) (.int .i64 m) (p3, 0))))
    (r4 : Hid (∀ (W : World) (a : Nat), RdAt 56 W a (bs (L1 ++ (L2 ++ (L3 ++ (L4 ++ L5))))) p3 0 → Calls Try.prog 24 #[.pointer (some ⟨a, 0, none⟩)] W (RdPost 56 W a (bs (L1 ++ (L2 ++ (L3 ++ (L4 ++ L5))))) (.int .u32 ((n : Int) % 4294967296)) (p4, 0))))
    (r5 : Hid (∀ (W : World) (a : Nat), RdAt 56 W a (bs (L1 ++ (L2 ++ (L3 ++ (L4 ++ L5))))) p4 0 → Calls Try.prog 26 #[.pointer (some ⟨a, 0, none⟩)] W (RdPost 56 W a (bs (L1 ++ (L2 ++ (L3 ++ (L4 ++ L5))))) (.int .u64 n) (p5, 0))))
    (r6 : Hid (∀ (W : World) (a : Nat), RdAt 56 W a (bs (L1 ++ (L2 ++ (L3 ++ (L4 ++ L5))))) p5 0 → Calls Try.prog 31 #[.pointer (some ⟨a, 0, none⟩)] W fun e w' => e = .returned (.int .i64 0) ∧ Below W.heap.size W w'))
    (r7 : Hid (∀ (W : World) (a : Nat), RdAt 56 W a t 0 0 → Calls Try.prog 33 #[.pointer (some ⟨a, 0, none⟩)] W (RdPost 56 W a t (.int .u64 x) (k, 0)))) (cX : Hid (∀ W : World, Calls Try.prog 9 #[.int .u64 x] W fun e w' => e = .returned (.string (bs X)) ∧ Below W.heap.size W w')) (hx : Hid (X = t.data.toList.take k)) (w : World) :
    Calls Try.prog 5 #[.int .u64 n, .int .i64 m, .string s, .string t] w fun e w' => e = .returned (.bool true) ∧ Below w.heap.size w w' := by
  have hbl := bs_list
  have hbz := bs_size
  have hba := bs_append
  have hte : (t.extract 0 k).toList = X := by rw [Lib.extract_toList, List.drop_zero, Nat.sub_zero]; exact hx.out.symm
  go_enter Try.func5, Try.ntmps5
  go_wp2_with (first
      | (go_at_call 8; refine (awake_any _).mono ?_; rintro e w1 ⟨rfl, hb⟩)
      | (go_at_call 9; (with_reducible refine (cN.out _).mono ?_); rintro e w2 ⟨rfl, hb'⟩; have hb := hb.trans (hb'.mono hb.size); clear hb')
      | (go_at_call 13; (with_reducible refine (cT.out _).mono ?_); rintro e w2 ⟨rfl, hb'⟩; have hb := hb.trans (hb'.mono hb.size); clear hb')
      | (go_at_call 11; (with_reducible refine (cS.out _).mono ?_); rintro e w2 ⟨rfl, hb'⟩; have hb := hb.trans (hb'.mono hb.size); clear hb')
      | (go_at_call 15; (with_reducible refine (cF.out _).mono ?_); rintro e w2 ⟨rfl, hb'⟩; have hb := hb.trans (hb'.mono hb.size); clear hb')
      | (go_at_call 17; (with_reducible refine (cW.out _).mono ?_); rintro e w2 ⟨rfl, hb'⟩; have hb := hb.trans (hb'.mono hb.size); clear hb')
      | (go_at_call 19; (with_reducible refine (over_any t _).mono ?_); rintro e w2 ⟨rfl, h2, hb'⟩; have hB2 := Lib.hid hb.size; have H6 := Lib.hid h2; have hb := hb.trans (hb'.mono hb.size); clear hb' h2)
      | (go_at_call 19; (with_reducible refine (over_any _ _).mono ?_); rintro e w2 ⟨rfl, h2, hb'⟩; have hB := Lib.hid hb.size; have H0 := Lib.hid h2; have hb := hb.trans (hb'.mono hb.size); clear hb' h2)
      | (go_at_call 33; (with_reducible refine (r1.out _ _ H0.out).mono ?_); rintro e w3 ⟨rfl, h3, g3⟩; have H1 := Lib.hid h3; have hb := below_grown hb g3 hb.size hB.out; clear h3 g3)
      | (go_at_call 22; (with_reducible refine (r2.out _ _ H1.out).mono ?_); rintro e w3 ⟨rfl, h3, g3⟩; have H2 := Lib.hid h3; have hb := below_grown hb g3 hb.size hB.out; clear h3 g3)
      | (go_at_call 20; (with_reducible refine (r3.out _ _ H2.out).mono ?_); rintro e w3 ⟨rfl, h3, g3⟩; have H3 := Lib.hid h3; have hb := below_grown hb g3 hb.size hB.out; clear h3 g3)
      | (go_at_call 24; (with_reducible refine (r4.out _ _ H3.out).mono ?_); rintro e w3 ⟨rfl, h3, g3⟩; have H4 := Lib.hid h3; have hb := below_grown hb g3 hb.size hB.out; clear h3 g3)
      | (go_at_call 26; (with_reducible refine (r5.out _ _ H4.out).mono ?_); rintro e w3 ⟨rfl, h3, g3⟩; have H5 := Lib.hid h3; have hb := below_grown hb g3 hb.size hB.out; clear h3 g3)
      | (go_at_call 31; (with_reducible refine (r6.out _ _ H5.out).mono ?_); rintro e w2 ⟨rfl, hb'⟩; have hb := hb.trans (hb'.mono hb.size); clear hb')
      | (go_at_call 33; (with_reducible refine (r7.out _ _ H6.out).mono ?_); rintro e w3 ⟨rfl, h3, g3⟩; have H7 := Lib.hid h3; have hb := below_grown hb g3 hb.size hB2.out; clear h3 g3)
      | (go_at_call 37; (with_reducible refine (err_any H7.out).mono ?_); rintro e w' ⟨rfl, rfl⟩)
      | (go_at_call 35; (with_reducible refine (at_any H8.out).mono ?_); rintro e w' ⟨rfl, rfl⟩)
      | (go_at_call 9; (with_reducible refine (cX.out _).mono ?_); rintro e w2 ⟨rfl, hb'⟩; have H8 := Lib.hid (rd_kept H7.out (grown_below hb' none) (by simp)); have hb := hb.trans (hb'.mono hb.size); clear hb'))
  go_ret
  exact ⟨rfl, hb⟩
set_option maxHeartbeats 2000000 in
set_option maxRecDepth 100000 in
theorem walk_bad (n : Nat) (m : Int) (s t : ByteArray) (L1 L2 L3 L4 L5 : List UInt8) (p1 p2 p3 p4 p5 : Nat) (hs : s.size ≤ 2000) (ht : t.size ≤ 2000) (l1 : L1.length ≤ 10) (l2 : L2.length ≤ 2010) (l3 : L3.length ≤ 10) (l4 : L4.length ≤ 4) (l5 : L5.length ≤ 8)
    (cN : Hid (∀ W : World, Calls Try.prog 9 #[.int .u64 n] W fun e w' => e = .returned (.string (bs L1)) ∧ Below W.heap.size W w')) (cT : Hid (∀ W : World, Calls Try.prog 13 #[.string s] W fun e w' => e = .returned (.string (bs L2)) ∧ Below W.heap.size W w')) (cS : Hid (∀ W : World, Calls Try.prog 11 #[.int .i64 m] W fun e w' => e = .returned (.string (bs L3)) ∧ Below W.heap.size W w')) (cF : Hid (∀ W : World, Calls Try.prog 15 #[.int .u32 ((n : Int) % 4294967296)] W fun e w' => e = .returned (.string (bs L4)) ∧ Below W.heap.size W w')) (cW : Hid (∀ W : World, Calls Try.prog 17 #[.int .u64 n] W fun e w' => e = .returned (.string (bs L5)) ∧ Below W.heap.size W w'))
    (r1 : Hid (∀ (W : World) (a : Nat), RdAt 56 W a (bs (L1 ++ (L2 ++ (L3 ++ (L4 ++ L5))))) 0 0 → Calls Try.prog 33 #[.pointer (some ⟨a, 0, none⟩)] W (RdPost 56 W a (bs (L1 ++ (L2 ++ (L3 ++ (L4 ++ L5))))) (.int .u64 n) (p1, 0))))
    (r2 : Hid (∀ (W : World) (a : Nat), RdAt 56 W a (bs (L1 ++ (L2 ++ (L3 ++ (L4 ++ L5))))) p1 0 → Calls Try.prog 22 #[.pointer (some ⟨a, 0, none⟩), .int .i64 s.size] W (RdPost 56 W a (bs (L1 ++ (L2 ++ (L3 ++ (L4 ++ L5))))) (.string s) (p2, 0))))
    (r3 : Hid (∀ (W : World) (a : Nat), RdAt 56 W a (bs (L1 ++ (L2 ++ (L3 ++ (L4 ++ L5))))) p2 0 → Calls Try.prog 20 #[.pointer (some ⟨a, 0, none⟩)] W (RdPost 56 W a (bs (L1 ++ (L2 ++ (L3 ++ (L4 ++ L5))))) (.int .i64 m) (p3, 0))))
    (r4 : Hid (∀ (W : World) (a : Nat), RdAt 56 W a (bs (L1 ++ (L2 ++ (L3 ++ (L4 ++ L5))))) p3 0 → Calls Try.prog 24 #[.pointer (some ⟨a, 0, none⟩)] W (RdPost 56 W a (bs (L1 ++ (L2 ++ (L3 ++ (L4 ++ L5))))) (.int .u32 ((n : Int) % 4294967296)) (p4, 0))))
    (r5 : Hid (∀ (W : World) (a : Nat), RdAt 56 W a (bs (L1 ++ (L2 ++ (L3 ++ (L4 ++ L5))))) p4 0 → Calls Try.prog 26 #[.pointer (some ⟨a, 0, none⟩)] W (RdPost 56 W a (bs (L1 ++ (L2 ++ (L3 ++ (L4 ++ L5))))) (.int .u64 n) (p5, 0))))
    (r6 : Hid (∀ (W : World) (a : Nat), RdAt 56 W a (bs (L1 ++ (L2 ++ (L3 ++ (L4 ++ L5))))) p5 0 → Calls Try.prog 31 #[.pointer (some ⟨a, 0, none⟩)] W fun e w' => e = .returned (.int .i64 0) ∧ Below W.heap.size W w'))
    (er : Int) (her : (er == 0) = false) (r7 : Hid (∀ (W : World) (a : Nat), RdAt 56 W a t 0 0 → Calls Try.prog 33 #[.pointer (some ⟨a, 0, none⟩)] W (RdPost 56 W a t (.int .u64 0) (0, er)))) (w : World) :
    Calls Try.prog 5 #[.int .u64 n, .int .i64 m, .string s, .string t] w fun e w' => e = .returned (.bool true) ∧ Below w.heap.size w w' := by
  have hbl := bs_list
  have hbz := bs_size
  have hba := bs_append
  have her' : (er != 0) = true := by simp [bne, her]
  go_enter Try.func5, Try.ntmps5
  go_wp2_with (first
      | (go_at_call 8; refine (awake_any _).mono ?_; rintro e w1 ⟨rfl, hb⟩)
      | (go_at_call 9; (with_reducible refine (cN.out _).mono ?_); rintro e w2 ⟨rfl, hb'⟩; have hb := hb.trans (hb'.mono hb.size); clear hb')
      | (go_at_call 13; (with_reducible refine (cT.out _).mono ?_); rintro e w2 ⟨rfl, hb'⟩; have hb := hb.trans (hb'.mono hb.size); clear hb')
      | (go_at_call 11; (with_reducible refine (cS.out _).mono ?_); rintro e w2 ⟨rfl, hb'⟩; have hb := hb.trans (hb'.mono hb.size); clear hb')
      | (go_at_call 15; (with_reducible refine (cF.out _).mono ?_); rintro e w2 ⟨rfl, hb'⟩; have hb := hb.trans (hb'.mono hb.size); clear hb')
      | (go_at_call 17; (with_reducible refine (cW.out _).mono ?_); rintro e w2 ⟨rfl, hb'⟩; have hb := hb.trans (hb'.mono hb.size); clear hb')
      | (go_at_call 19; (with_reducible refine (over_any t _).mono ?_); rintro e w2 ⟨rfl, h2, hb'⟩; have hB2 := Lib.hid hb.size; have H6 := Lib.hid h2; have hb := hb.trans (hb'.mono hb.size); clear hb' h2)
      | (go_at_call 19; (with_reducible refine (over_any _ _).mono ?_); rintro e w2 ⟨rfl, h2, hb'⟩; have hB := Lib.hid hb.size; have H0 := Lib.hid h2; have hb := hb.trans (hb'.mono hb.size); clear hb' h2)
      | (go_at_call 33; (with_reducible refine (r1.out _ _ H0.out).mono ?_); rintro e w3 ⟨rfl, h3, g3⟩; have H1 := Lib.hid h3; have hb := below_grown hb g3 hb.size hB.out; clear h3 g3)
      | (go_at_call 22; (with_reducible refine (r2.out _ _ H1.out).mono ?_); rintro e w3 ⟨rfl, h3, g3⟩; have H2 := Lib.hid h3; have hb := below_grown hb g3 hb.size hB.out; clear h3 g3)
      | (go_at_call 20; (with_reducible refine (r3.out _ _ H2.out).mono ?_); rintro e w3 ⟨rfl, h3, g3⟩; have H3 := Lib.hid h3; have hb := below_grown hb g3 hb.size hB.out; clear h3 g3)
      | (go_at_call 24; (with_reducible refine (r4.out _ _ H3.out).mono ?_); rintro e w3 ⟨rfl, h3, g3⟩; have H4 := Lib.hid h3; have hb := below_grown hb g3 hb.size hB.out; clear h3 g3)
      | (go_at_call 26; (with_reducible refine (r5.out _ _ H4.out).mono ?_); rintro e w3 ⟨rfl, h3, g3⟩; have H5 := Lib.hid h3; have hb := below_grown hb g3 hb.size hB.out; clear h3 g3)
      | (go_at_call 31; (with_reducible refine (r6.out _ _ H5.out).mono ?_); rintro e w2 ⟨rfl, hb'⟩; have hb := hb.trans (hb'.mono hb.size); clear hb')
      | (go_at_call 33; (with_reducible refine (r7.out _ _ H6.out).mono ?_); rintro e w3 ⟨rfl, h3, g3⟩; have H7 := Lib.hid h3; have hb := below_grown hb g3 hb.size hB2.out; clear h3 g3)
      | (go_at_call 37; (with_reducible refine (err_any H7.out).mono ?_); rintro e w' ⟨rfl, rfl⟩)
      | (go_at_call 35; (with_reducible refine (at_any H7.out).mono ?_); rintro e w' ⟨rfl, rfl⟩))
  go_ret
  exact ⟨rfl, hb⟩

theorem walk_long (n : Nat) (m : Int) (s t : ByteArray) (hsm : s.size ≤ 9223372036854775807) (htm : t.size ≤ 9223372036854775807) (h : 2000 < s.size ∨ (s.size ≤ 2000 ∧ 2000 < t.size)) (w : World) :
    Calls Try.prog 5 #[.int .u64 n, .int .i64 m, .string s, .string t] w fun e w' => e = .returned (.bool true) ∧ Below w.heap.size w w' := by
  rcases h with h | ⟨h0, h⟩
  · go_enter Try.func5, Try.ntmps5
    go_wp2_with (go_at_call 8; refine (awake_any _).mono ?_; rintro e w1 ⟨rfl, hb⟩)
    go_ret
    exact ⟨rfl, hb⟩
  · go_enter Try.func5, Try.ntmps5
    go_wp2_with (go_at_call 8; refine (awake_any _).mono ?_; rintro e w1 ⟨rfl, hb⟩)
    go_ret
    exact ⟨rfl, hb⟩
theorem end_ok {W : World} {a : Nat} {s : ByteArray} {p : Nat} (h : RdAt 56 W a s p 0) (hs : s.size ≤ 1000000) (hp : p = s.size) :
    Calls Try.prog 31 #[.pointer (some ⟨a, 0, none⟩)] W fun e w' => e = .returned (.int .i64 0) ∧ Below W.heap.size W w' := by
  subst hp
  have := end_any h hs (Nat.le_refl _)
  rw [show dEnd s.size s.size 0 = 0 by unfold dEnd; rw [if_pos rfl, if_neg (Nat.lt_irrefl _)]] at this
  exact this.mono fun e w' ⟨h1, k, h2⟩ => ⟨h1, by rw [h2]; exact below_drewN (Below.refl _ _) k⟩
theorem walk (n : Nat) (hn : n < 18446744073709551616) (m : Int) (hm1 : -9223372036854775808 ≤ m) (hm2 : m ≤ 9223372036854775807) (s : ByteArray) (hsm : s.size ≤ maxLen) (t : ByteArray) (htm : t.size ≤ maxLen) (w : World) :
    Calls Try.prog 5 #[.int .u64 n, .int .i64 m, .string s, .string t] w fun e w' => e = .returned (.bool true) ∧ Below w.heap.size w w' := by
  by_cases hs : s.size ≤ 2000
  · by_cases ht : t.size ≤ 2000
    · have l1 := vnum_len10 hn
      have l2' := vnum_len10 (n := s.size) (by omega)
      have l3 := vnum_len10 (zig_lt hm1 hm2)
      have e4 : ((n : Int) % 4294967296) = ((n % 4294967296 : Nat) : Int) := by omega
      have l2 : (vnum s.size ++ s.data.toList).length ≤ 2010 := by rw [List.length_append, size_len]; omega
      have l4 := little_len 4 (n % 4294967296)
      have l5 := little_len 8 n
      have c4 : ∀ W : World, Calls Try.prog 15 #[.int .u32 ((n : Int) % 4294967296)] W fun e w' => e = .returned (.string (bs (little 4 (n % 4294967296)))) ∧ Below W.heap.size W w' := fun W => by rw [e4]; exact fixed_any _ (by omega) W
      generalize hL1 : vnum n = L1 at l1
      generalize hL2 : vnum s.size ++ s.data.toList = L2 at l2
      generalize hL3 : vnum (zig m) = L3 at l3
      generalize hL4 : little 4 (n % 4294967296) = L4 at l4 c4
      generalize hL5 : little 8 n = L5 at l5
      have hBz : (bs (L1 ++ (L2 ++ (L3 ++ (L4 ++ L5))))).size ≤ 1000000 := by rw [bs_size]; simp; omega
      have cN := num_any n hn
      have cT := text_any s (by omega)
      have cS := signed_any m hm1 hm2
      have cW := wide_any n hn
      rw [hL1] at cN
      rw [hL2] at cT
      rw [hL3] at cS
      rw [hL5] at cW
      have q1 := dNum_mid [] (L2 ++ (L3 ++ (L4 ++ L5))) n hn
      have q2 := dText_mid L1 s.data.toList (L3 ++ (L4 ++ L5)) (by rw [size_len]; omega)
      have q3 := dNum_mid (L1 ++ L2) (L4 ++ L5) (zig m) (zig_lt hm1 hm2)
      have q4 := dTake_mid (L1 ++ (L2 ++ L3)) L4 L5
      have q5 := dTake_mid (L1 ++ (L2 ++ (L3 ++ L4))) L5 []
      rw [hL1] at q1
      rw [size_len, hL2] at q2
      rw [hL3] at q3
      rw [l4] at q4
      rw [l5, List.append_nil] at q5
      simp only [List.nil_append, List.length_nil, List.append_assoc, Nat.zero_add] at q1 q2 q3 q4 q5
      have hr1 : ∀ (W : World) (a : Nat), RdAt 56 W a (bs (L1 ++ (L2 ++ (L3 ++ (L4 ++ L5))))) 0 0 → Calls Try.prog 33 #[.pointer (some ⟨a, 0, none⟩)] W (RdPost 56 W a (bs (L1 ++ (L2 ++ (L3 ++ (L4 ++ L5))))) (.int .u64 n) (L1.length, 0)) := fun W a h => by
        have := rnum_any h hBz (Nat.zero_le _)
        rw [bs_toList, q1] at this; exact this
      have hr2 : ∀ (W : World) (a : Nat), RdAt 56 W a (bs (L1 ++ (L2 ++ (L3 ++ (L4 ++ L5))))) L1.length 0 → Calls Try.prog 22 #[.pointer (some ⟨a, 0, none⟩), .int .i64 s.size] W (RdPost 56 W a (bs (L1 ++ (L2 ++ (L3 ++ (L4 ++ L5))))) (.string s) (L1.length + L2.length, 0)) := fun W a h => by
        have := rtext_any (s.size : Int) (by omega) h hBz (by rw [bs_size]; simp)
        rw [bs_toList, q2, bs_of] at this; exact this
      have hr3 : ∀ (W : World) (a : Nat), RdAt 56 W a (bs (L1 ++ (L2 ++ (L3 ++ (L4 ++ L5))))) (L1.length + L2.length) 0 → Calls Try.prog 20 #[.pointer (some ⟨a, 0, none⟩)] W (RdPost 56 W a (bs (L1 ++ (L2 ++ (L3 ++ (L4 ++ L5))))) (.int .i64 m) ((L1 ++ L2).length + L3.length, 0)) := fun W a h => by
        have := rsigned_any h hBz (by rw [bs_size]; simp <;> omega)
        rw [bs_toList, ← List.length_append, q3, zag_zig] at this; exact this
      have hr4 : ∀ (W : World) (a : Nat), RdAt 56 W a (bs (L1 ++ (L2 ++ (L3 ++ (L4 ++ L5))))) ((L1 ++ L2).length + L3.length) 0 → Calls Try.prog 24 #[.pointer (some ⟨a, 0, none⟩)] W (RdPost 56 W a (bs (L1 ++ (L2 ++ (L3 ++ (L4 ++ L5))))) (.int .u32 ((n : Int) % 4294967296)) ((L1 ++ (L2 ++ L3)).length + 4, 0)) := fun W a h => by
        have := rfixed_any h hBz (by rw [bs_size]; simp; omega)
        rw [bs_toList, show (L1 ++ L2).length + L3.length = (L1 ++ (L2 ++ L3)).length by simp; omega, show (4 : Int) = ((4 : Nat) : Int) from rfl, q4] at this
        rw [← hL4, big_little 4 _ (by omega), ← e4] at this
        rw [← hL4]; exact this
      have hr5 : ∀ (W : World) (a : Nat), RdAt 56 W a (bs (L1 ++ (L2 ++ (L3 ++ (L4 ++ L5))))) ((L1 ++ (L2 ++ L3)).length + 4) 0 → Calls Try.prog 26 #[.pointer (some ⟨a, 0, none⟩)] W (RdPost 56 W a (bs (L1 ++ (L2 ++ (L3 ++ (L4 ++ L5))))) (.int .u64 n) ((L1 ++ (L2 ++ (L3 ++ L4))).length + 8, 0)) := fun W a h => by
        have := rwide_any h hBz (by rw [bs_size]; simp; omega)
        rw [bs_toList, show (L1 ++ (L2 ++ L3)).length + 4 = (L1 ++ (L2 ++ (L3 ++ L4))).length by simp; omega, show (8 : Int) = ((8 : Nat) : Int) from rfl, q5] at this
        rw [← hL5, big_little 8 n (Nat.lt_of_lt_of_le hn (by decide))] at this
        rw [← hL5]; exact this
      have hr6 : ∀ (W : World) (a : Nat), RdAt 56 W a (bs (L1 ++ (L2 ++ (L3 ++ (L4 ++ L5))))) ((L1 ++ (L2 ++ (L3 ++ L4))).length + 8) 0 → Calls Try.prog 31 #[.pointer (some ⟨a, 0, none⟩)] W fun e w' => e = .returned (.int .i64 0) ∧ Below W.heap.size W w' :=
        fun W a h => end_ok h hBz (by rw [bs_size]; simp; omega)
      have ht2 : t.size ≤ 1000000 := by omega
      have hk0 := rnum_len t.data.toList
      have hx0 := rnum_lt t.data.toList
      have he0 := rnum_err t.data.toList
      have hd := dNum_ok t.data.toList 0
      rw [List.drop_zero] at hd
      rcases hrn : rnum t.data.toList with ⟨x, k, e⟩
      rw [hrn] at hk0 hx0 he0 hd
      simp only [Nat.zero_add] at hk0 hx0 he0 hd
      by_cases he : e = 0
      · subst he
        have hr7 : ∀ (W : World) (a : Nat), RdAt 56 W a t 0 0 → Calls Try.prog 33 #[.pointer (some ⟨a, 0, none⟩)] W (RdPost 56 W a t (.int .u64 x) (k, 0)) := fun W a h => by
          have := rnum_any h ht2 (Nat.zero_le _)
          rw [hd] at this; exact this
        exact walk_good n m s t L1 L2 L3 L4 L5 (vnum x) _ _ _ _ _ x k hs ht l1 l2 l3 (by omega) (by omega) hk0 cN cT cS c4 cW hr1 hr2 hr3 hr4 hr5 hr6 hr7 (num_any x hx0) (vnum_rnum hrn) w
      · obtain ⟨rfl, rfl, _⟩ := he0.resolve_left he
        have hr7 : ∀ (W : World) (a : Nat), RdAt 56 W a t 0 0 → Calls Try.prog 33 #[.pointer (some ⟨a, 0, none⟩)] W (RdPost 56 W a t (.int .u64 0) (0, (e : Int))) := fun W a h => by
          have := rnum_any h ht2 (Nat.zero_le _)
          rw [hd] at this; exact this
        exact walk_bad n m s t L1 L2 L3 L4 L5 _ _ _ _ _ hs ht l1 l2 l3 (by omega) (by omega) cN cT cS c4 cW hr1 hr2 hr3 hr4 hr5 hr6 (e : Int) (by simp; omega) hr7 w
    · exact walk_long n m s t hsm htm (.inr ⟨hs, by omega⟩) w
  · exact walk_long n m s t hsm htm (.inl (by omega)) w

set_option maxRecDepth 100000 in
theorem lifted (os : Os) (started : os.Started) (H : Type) (enc : TypeId × Value → H) :
    ReturnsInHanded {} Try.checked os 5 .any (Rows.varintBackSpec.pre6 enc Try.prog Try.f5 Rows.varintBackRow.domain false) (Rows.varintBackSpec.post enc Try.prog Try.f5 false true false false) := by
  refine returnsInHanded_of_change (C := Try.checked) own started (by kernel_rfl) Try.func5
    (ChangeSpec.witness6 (enc := enc) (C := Try.checked) false ⟨#[], #[.int .u64 0, .int .i64 0, .string .empty, .string .empty], []⟩ 8 (by kernel_rfl) (by kernel_rfl) (by kernel_rfl) (by kernel_rfl)) ?_
  intro W base args ds gs before hval0 hW hcnd _
  have hval : ∀ (j : Nat) t v, Try.f5.params[j]? = some t → args[j]? = some v → Value.okWide Try.prog W .any base t v := hval0
  have hW' := hW
  obtain ⟨p, q, hA0, hV, rfl, hfz, hnd⟩ := hW
  have hA : DataW.TrodAll enc Try.prog W 0 (fun _ => true) true Try.f5.params.toList args.toList ds p := hA0
  rw [Try.params5] at hA hval
  obtain ⟨v0, vs0, d0, ds0, p0, q0, hargs, rfl, rfl, h0, r0⟩ := trodAll_cons hA
  obtain ⟨v1, vs1, d1, ds1, p1, q1, rfl, rfl, rfl, h1, r1⟩ := trodAll_cons r0
  obtain ⟨v2, vs2, d2, ds2, p2, q2, rfl, rfl, rfl, h2, r2⟩ := trodAll_cons r1
  obtain ⟨v3, vs3, d3, ds3, p3, q3, rfl, rfl, rfl, h3, r3⟩ := trodAll_cons r2
  obtain ⟨rfl, rfl, rfl⟩ := trodAll_nil r3
  obtain rfl : args = #[v0, v1, v2, v3] := by cases args; simp_all
  obtain ⟨a0, rfl, rfl, rfl, w0⟩ := open_int Try.underlying22 (hval 0 22 v0 rfl rfl) h0
  obtain ⟨n0, rfl, m0⟩ := u64_nat w0
  obtain ⟨a1, rfl, rfl, rfl, w1⟩ := open_int Try.underlying2 (hval 1 2 v1 rfl rfl) h1
  obtain ⟨l1, m1⟩ := i64_bd w1
  obtain ⟨s2, rfl, rfl, rfl, m2⟩ := open_string Try.underlying9 (hval 2 9 v2 rfl rfl) h2
  obtain ⟨s3, rfl, rfl, rfl, m3⟩ := open_string Try.underlying9 (hval 3 9 v3 rfl rfl) h3
  refine (walk n0 m0 a1 l1 m1 s2 m2 s3 m3 W).mono fun e W' ⟨he, hb⟩ => ?_
  exact ⟨_, he, post_law hW' rfl rfl rfl (by rw [Try.params5]; decide +kernel) hb⟩

theorem proved : Rows.VarintBackSaid :=
  OpenClaim.holds_of_wide 5 Try.f5 rfl rfl rfl rfl rfl rfl rfl ⟨rfl, rfl, rfl, rfl, rfl⟩ rfl rfl rfl rfl rfl (by kernel_rfl) Try.func5 (by kernel_rfl)
    (of_decide_eq_true (by kernel_rfl)) (by unfold Func.isWrapper; first | (rw [if_pos (by decide +kernel)]; kernel_rfl) | (rw [if_neg (by decide +kernel)]; exact ⟨rfl, rfl⟩))
    (fun os started H enc _ => lifted os started H enc)
#print axioms proved
end Go.Proofs.Ytgpifihghklgfaa.varintBack
