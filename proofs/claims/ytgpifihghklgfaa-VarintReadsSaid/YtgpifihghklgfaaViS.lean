/-
  The document's Go text of a reader, walked: Take, Little, Signed, Text, Fail, End. Conditions: as each theorem states.
-/
import Derived.Test.YtgpifihghklgfaaViR
namespace Go.Proofs.Ytgpifihghklgfaa
open Go.RowKit
open Vi

theorem qnum_any {w : World} {a : Nat} {s : ByteArray} {at_ : Nat} {err : Int} (h : RdAt 37 w a s at_ err) (hs : s.size ≤ 1000000) (ha : at_ ≤ s.size) :
    Calls Try.prog 34 #[.pointer (some ⟨a, 0, none⟩)] w (RdPost 37 w a s (.int .u64 (dNum s.data.toList at_ err).1) (dNum s.data.toList at_ err).2) := by
  by_cases he : err = 0
  · subst he
    rw [dNum_ok]
    exact qnum_ok h hs ha
  · rw [dNum_bad he]
    exact (qnum_bad h (by simpa using he)).mono fun e w' ⟨h1, h2⟩ => by subst h2; exact ⟨h1, h, grown_refl _ _⟩
theorem qtake_bad {w : World} {a : Nat} {s : ByteArray} {at_ : Nat} {err : Int} (n : Int) (h : RdAt 37 w a s at_ err) (he : (err == 0) = false) :
    Calls Try.prog 28 #[.pointer (some ⟨a, 0, none⟩), .int .i64 n] w fun e w' => e = .returned (.string (bs [])) ∧ w = w' := by
  have he' : (err != 0) = true := by simp [bne, he]
  have c2 := rd2 h
  go_enter Try.func28, Try.ntmps28
  go_wp2
  go_ret
  exact ⟨rfl, rfl⟩
theorem qtake_low {w : World} {a : Nat} {s : ByteArray} {at_ : Nat} (n : Int) (h : RdAt 37 w a s at_ 0) (hn : n < 0) :
    Calls Try.prog 28 #[.pointer (some ⟨a, 0, none⟩), .int .i64 n] w (RdPost 37 w a s (.string (bs [])) (at_, 3)) := by
  have c2 := rd2 h
  have f2 := free_in h 2
  have H := Lib.hid h
  clear h
  go_enter Try.func28, Try.ntmps28
  go_wp2
  go_quiet (fail)
  go_wp2
  go_ret
  exact ⟨rfl, heap_set (rd_drewN H.out nq) 2 _, (grown_drewN w nq _).trans (grown_set _ _ _ _)⟩
theorem qtake_far {w : World} {a : Nat} {s : ByteArray} {at_ : Nat} (n : Int) (h : RdAt 37 w a s at_ 0) (hs : s.size ≤ 1000000) (ha : at_ ≤ s.size) (hn : (s.size : Int) - at_ < n) :
    Calls Try.prog 28 #[.pointer (some ⟨a, 0, none⟩), .int .i64 n] w (RdPost 37 w a s (.string (bs [])) (at_, 3)) := by
  have c0 := rd0 h
  have c1 := rd1 h
  have c2 := rd2 h
  have f2 := free_in h 2
  have H := Lib.hid h
  clear h
  have h0 : decide (n < 0) = false := by simp; omega
  have g1 : IntKind.i64.wrap ((s.size : Int) - at_) = (s.size : Int) - at_ := IntWalk.i64_in _ (by omega)
  go_enter Try.func28, Try.ntmps28
  go_wp2
  go_quiet (fail)
  clear g1
  go_wp2
  go_ret
  exact ⟨rfl, heap_set (rd_drewN H.out nq) 2 _, (grown_drewN w nq _).trans (grown_set _ _ _ _)⟩
theorem qtake_ok {w : World} {a : Nat} {s : ByteArray} {at_ : Nat} (n : Nat) (h : RdAt 37 w a s at_ 0) (hs : s.size ≤ 1000000) (ha : at_ ≤ s.size) (hn : n ≤ s.size - at_) :
    Calls Try.prog 28 #[.pointer (some ⟨a, 0, none⟩), .int .i64 n] w (RdPost 37 w a s (.string (bs ((s.data.toList.drop at_).take n))) (at_ + n, 0)) := by
  have c0 := rd0 h
  have c1 := rd1 h
  have c2 := rd2 h
  have f1 := free_in h 1
  have H := Lib.hid h
  clear h
  have h00 : ¬ (n : Int) < 0 := by omega
  have h0 : decide ((n : Int) < 0) = false := by simp
  have h1 : ¬ (s.size : Int) - at_ < n := by omega
  have k1 : (at_ : Int) + n ≤ s.size := by omega
  have k2 : (0 : Int) ≤ (at_ : Int) + n := by omega
  have k3 : (at_ : Int) ≤ (at_ : Int) + n := by omega
  have k5 : at_ + n ≤ s.size := by omega
  have k4 : ((at_ : Int) + n).toNat = at_ + n := by omega
  have g1 : IntKind.i64.wrap ((s.size : Int) - at_) = (s.size : Int) - at_ := IntWalk.i64_in _ (by omega)
  have g2 : IntKind.i64.wrap ((at_ : Int) + n) = (at_ : Int) + n := IntWalk.i64_in _ (by omega)
  go_enter Try.func28, Try.ntmps28
  go_wp2
  go_quiet (fail)
  go_wp2
  go_quiet (fail)
  clear g1 g2
  go_wp2
  go_ret
  have e : s.extract at_ (at_ + n) = bs ((s.data.toList.drop at_).take n) := by rw [Lib.extract_eq, Nat.add_sub_cancel_left]; rfl
  exact ⟨by rw [← e]; rfl, heap_set (rd_drewN H.out _) 1 _, (grown_drewN w _ _).trans (grown_set _ _ _ _)⟩
theorem qtake_any {w : World} {a : Nat} {s : ByteArray} {at_ : Nat} {err : Int} (n : Int) (h : RdAt 37 w a s at_ err) (hs : s.size ≤ 1000000) (ha : at_ ≤ s.size) :
    Calls Try.prog 28 #[.pointer (some ⟨a, 0, none⟩), .int .i64 n] w (RdPost 37 w a s (.string (bs (dTake s.data.toList at_ err n).1)) (dTake s.data.toList at_ err n).2) := by
  by_cases he : err = 0
  · subst he
    by_cases h0 : n < 0
    · rw [dTake_short (.inl h0)]; exact qtake_low n h h0
    · by_cases h1 : (s.size : Int) - at_ < n
      · rw [dTake_short (.inr h1)]; exact qtake_far n h hs ha h1
      · rw [dTake_ok (by omega) (by rw [size_len]; omega)]
        have := qtake_ok n.toNat h hs ha (by omega)
        rw [show ((n.toNat : Nat) : Int) = n by omega] at this
        exact this
  · rw [dTake_bad he]
    exact (qtake_bad n h (by simpa using he)).mono fun e w' ⟨h1, h2⟩ => by subst h2; exact ⟨h1, h, grown_refl _ _⟩
theorem qfail_any {w : World} {a : Nat} {s : ByteArray} {at_ : Nat} {err : Int} (e : Int) (h : RdAt 37 w a s at_ err) :
    Calls Try.prog 30 #[.pointer (some ⟨a, 0, none⟩), .int .i64 e] w (RdPost 37 w a s (.tuple #[]) (dFail at_ err e)) := by
  have H := Lib.hid h
  by_cases he : err = 0
  · subst he
    rw [dFail_ok]
    have c2 := rd2 h
    have f2 := free_in h 2
    clear h
    go_enter Try.func30, Try.ntmps30
    go_wp2
    go_end0
    exact ⟨rfl, heap_set H.out 2 _, grown_set _ _ _ _⟩
  · rw [dFail_bad he]
    have he' : (err == 0) = false := by simpa using he
    have c2 := rd2 h
    clear h he
    go_enter Try.func30, Try.ntmps30
    go_wp2
    go_end0
    exact ⟨rfl, H.out, grown_refl _ _⟩
theorem qend_any {w : World} {a : Nat} {s : ByteArray} {at_ : Nat} {err : Int} (h : RdAt 37 w a s at_ err) (hs : s.size ≤ 1000000) (ha : at_ ≤ s.size) :
    Calls Try.prog 32 #[.pointer (some ⟨a, 0, none⟩)] w fun e' w' => e' = .returned (.int .i64 (dEnd s.size at_ err)) ∧ ∃ k, w' = w.drewN k := by
  have c0 := rd0 h
  have c1 := rd1 h
  have c2 := rd2 h
  have H := Lib.hid h
  clear h
  by_cases he : err = 0
  · subst he
    by_cases hl : at_ < s.size
    · rw [dEnd_form hl]
      have hl' : (at_ : Int) < s.size := by omega
      go_enter Try.func32, Try.ntmps32
      go_wp2
      go_quiet (fail)
      go_wp2
      go_ret
      exact ⟨rfl, _, rfl⟩
    · rw [dEnd_ok hl]
      have hl' : ¬ (at_ : Int) < s.size := by omega
      go_enter Try.func32, Try.ntmps32
      go_wp2
      go_quiet (fail)
      go_wp2
      go_ret
      exact ⟨rfl, _, rfl⟩
  · rw [dEnd_bad he]
    have he' : (err == 0) = false := by simpa using he
    clear he
    go_enter Try.func32, Try.ntmps32
    go_wp2
    go_quiet (fail)
    go_wp2
    go_ret
    exact ⟨rfl, _, rfl⟩
theorem qsigned_any {w : World} {a : Nat} {s : ByteArray} {at_ : Nat} {err : Int} (h : RdAt 37 w a s at_ err) (hs : s.size ≤ 1000000) (ha : at_ ≤ s.size) :
    Calls Try.prog 21 #[.pointer (some ⟨a, 0, none⟩)] w (RdPost 37 w a s (.int .i64 (zag (dNum s.data.toList at_ err).1)) (dNum s.data.toList at_ err).2) := by
  have hl := dNum_lt s.data.toList at_ err
  have HC := qnum_any h hs ha
  generalize dNum s.data.toList at_ err = r at hl HC ⊢
  obtain ⟨n, at2, err2⟩ := r
  have hl : n < 18446744073709551616 := hl
  have HC := Lib.hid HC
  clear h
  by_cases hp : n % 2 = 1
  · have hp' : ((n : Int) % 2 == 1) = true := by simp; omega
    go_enter Try.func21, Try.ntmps21
    go_wp2_with (first
      | (go_at_call 34; refine HC.out.mono ?_; rintro e w1 ⟨rfl, h1, g1⟩; have H1 := Lib.hid h1; clear h1))
    go_ret
    exact ⟨ret_int (by rw [zag_odd hp]; omega), H1.out, g1⟩
  · have hp' : ((n : Int) % 2 == 1) = false := by simp; omega
    go_enter Try.func21, Try.ntmps21
    go_wp2_with (first
      | (go_at_call 34; refine HC.out.mono ?_; rintro e w1 ⟨rfl, h1, g1⟩; have H1 := Lib.hid h1; clear h1))
    go_ret
    exact ⟨ret_int (by rw [zag_even hp]; omega), H1.out, g1⟩
theorem qtext_any {w : World} {a : Nat} {s : ByteArray} {at_ : Nat} {err : Int} (most : Int) (hmo : most ≤ 9223372036854775807) (h : RdAt 37 w a s at_ err) (hs : s.size ≤ 1000000) (ha : at_ ≤ s.size) :
    Calls Try.prog 23 #[.pointer (some ⟨a, 0, none⟩), .int .i64 most] w (RdPost 37 w a s (.string (bs (dText s.data.toList at_ err most).1)) (dText s.data.toList at_ err most).2) := by
  have hl := dNum_lt s.data.toList at_ err
  have ha2 := dNum_at (l := s.data.toList) (at_ := at_) (err := err) ha
  have HC := qnum_any h hs ha
  rw [dText_eq]
  generalize dNum s.data.toList at_ err = r at hl HC ha2 ⊢
  obtain ⟨n, at2, err2⟩ := r
  simp only [] at hl ha2 ⊢
  have ha3 : Hid (at2 ≤ s.size) := ha2
  have HC := Lib.hid HC
  clear h ha2
  by_cases hm0 : most < 0
  · rw [show max most 0 = 0 by omega]
    by_cases hc : 0 < n
    · rw [if_pos (by omega)]
      go_enter Try.func23, Try.ntmps23
      go_wp2_with (first
        | (go_at_call 34; refine HC.out.mono ?_; rintro e w1 ⟨rfl, h1, g1⟩; have H1 := Lib.hid h1; clear h1)
        | (go_at_call 30; refine (qfail_any 5 H1.out).mono ?_; rintro e w2 ⟨rfl, h2, g2⟩; have H2 := Lib.hid h2; clear h2))
      go_ret
      exact ⟨rfl, H2.out, g1.trans g2⟩
    · rw [if_neg (by omega)]
      obtain rfl : n = 0 := by omega
      go_enter Try.func23, Try.ntmps23
      go_wp2_with (first
        | (go_at_call 34; refine HC.out.mono ?_; rintro e w1 ⟨rfl, h1, g1⟩; have H1 := Lib.hid h1; clear h1)
        | (go_at_call 28; refine (qtake_any 0 H1.out hs ha3.out).mono ?_; rintro e w2 ⟨rfl, h2, g2⟩; have H2 := Lib.hid h2; clear h2))
      go_ret
      exact ⟨rfl, H2.out, g1.trans g2⟩
  · obtain ⟨m, rfl⟩ : ∃ m : Nat, most = m := ⟨most.toNat, by omega⟩
    rw [show max (m : Int) 0 = m by omega]
    by_cases hc : m < n
    · rw [if_pos (by omega)]
      go_enter Try.func23, Try.ntmps23
      go_wp2_with (first
        | (go_at_call 34; refine HC.out.mono ?_; rintro e w1 ⟨rfl, h1, g1⟩; have H1 := Lib.hid h1; clear h1)
        | (go_at_call 30; refine (qfail_any 5 H1.out).mono ?_; rintro e w2 ⟨rfl, h2, g2⟩; have H2 := Lib.hid h2; clear h2))
      go_ret
      exact ⟨rfl, H2.out, g1.trans g2⟩
    · rw [if_neg (by omega)]
      have hn : n ≤ 9223372036854775807 := by omega
      go_enter Try.func23, Try.ntmps23
      go_wp2_with (first
        | (go_at_call 34; refine HC.out.mono ?_; rintro e w1 ⟨rfl, h1, g1⟩; have H1 := Lib.hid h1; clear h1)
        | (go_at_call 28; refine (qtake_any n H1.out hs ha3.out).mono ?_; rintro e w2 ⟨rfl, h2, g2⟩; have H2 := Lib.hid h2; clear h2))
      go_ret
      exact ⟨rfl, H2.out, g1.trans g2⟩
set_option maxRecDepth 100000 in
theorem qlittle_any {w : World} {a : Nat} {s : ByteArray} {at_ : Nat} {err : Int} (k : Nat) (hk : k ≤ 8) (h : RdAt 37 w a s at_ err) (hs : s.size ≤ 1000000) (ha : at_ ≤ s.size) :
    Calls Try.prog 25 #[.pointer (some ⟨a, 0, none⟩), .int .i64 k] w (RdPost 37 w a s (.int .u64 (big (dTake s.data.toList at_ err k).1)) (dTake s.data.toList at_ err k).2) := by
  have hl := dTake_small (l := s.data.toList) (at_ := at_) (err := err) (n := (k : Int)) (by omega)
  have HC := qtake_any (k : Int) h hs ha
  generalize dTake s.data.toList at_ err (k : Int) = r at hl HC ⊢
  obtain ⟨l, at2, err2⟩ := r
  obtain ⟨t, rfl⟩ : ∃ t : ByteArray, l = t.data.toList := ⟨bs l, (bs_toList l).symm⟩
  rw [bs_of] at HC
  have ht : t.size ≤ 8 := hl
  have HC := Lib.hid HC
  clear h hl
  go_enter Try.func25, Try.ntmps25
  go_wp2_with (first
    | (go_at_call 28; refine HC.out.mono ?_; rintro e w1 ⟨rfl, h1, g1⟩; have H1 := Lib.hid h1; clear h1))
  go_loop [6, 7] (fun x i => ∃ (j n : Nat), j ≤ t.size ∧ n = big (t.data.toList.drop j) ∧ x = .int .u64 n ∧ i = .int .i64 ((j : Int) - 1)) (fun _ i => (intOf i + 1).toNat)
  case atStart => exact ⟨t.size, 0, Nat.le_refl _, by rw [drop_all, big_nil], rfl, rfl⟩
  case round =>
    obtain ⟨j, n, hj, hn, rfl, rfl⟩ := hrel
    have HN := Lib.hid hn
    clear hn
    by_cases h0 : j = 0
    · subst h0
      go_wp2
      go_ret
      exact ⟨ret_int (by rw [HN.out]; rfl), H1.out, g1⟩
    · obtain ⟨i, rfl⟩ : ∃ i, j = i + 1 := ⟨j - 1, by omega⟩
      have hlt : n < 72057594037927936 := by rw [HN.out]; exact big_drop_lt ht (by omega)
      have hi : i < t.size := by omega
      go_wp2
      go_round
      case rel => exact ⟨i, t[i].toNat + 256 * n, by omega, by rw [big_drop t i hi, ← HN.out], val_int (by
        have hc := t[i].toNat_lt
        rw [wrap_byte, IntKind.wrap_u64]; omega), rfl⟩
      case measure => simp [intOf]
end Go.Proofs.Ytgpifihghklgfaa
