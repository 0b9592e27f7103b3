/-
  The Go text of a reader, walked: Num, cut, Take, Text, Signed, Fixed, Wide, Fail, End. Conditions: as each theorem states.
-/
import Derived.Test.YtgpifihghklgfaaViE
import Derived.Lib.Strings
namespace Go.Proofs.Ytgpifihghklgfaa
open Go.RowKit
open Vi

theorem bs_list (l : List UInt8) : (bs l).toList = l := by rw [Lib.toList_data]; rfl
theorem quiet_eq {P : Program} {f : FuncId} {args : Array Value} {w : World} {n : Nat} {v : Value}
    (h : Calls P f args (w.drewN n) fun e w' => e = .returned v ∧ w.drewN n = w') : Calls P f args (w.drewN n) fun e w'' => e = .returned v ∧ ∃ m, w'' = w.drewN m :=
  h.mono fun _ _ ⟨he, hm⟩ => ⟨he, n, hm.symm⟩

theorem number_sub {s : ByteArray} {at_ x y z : Nat} (hs : s.size ≤ 1000000) (hr : Hid (rnum (s.data.toList.drop at_) = (x, y, z))) (w : World) :
    Calls Try.prog 43 #[.string (s.extract at_ s.size)] w fun e w' => e = .returned (.tuple #[.int .u64 x, .int .i64 y, .int .i64 z]) ∧ w = w' := by
  have e : (s.extract at_ s.size).data.toList = s.data.toList.drop at_ := by
    rw [Lib.extract_data, List.take_of_length_le (by rw [List.length_drop]; exact Nat.le_refl _)]
  have hz : (s.extract at_ s.size).size ≤ 1000000 := by
    have h1 : (s.extract at_ s.size).data.toList.length ≤ s.data.toList.length := by rw [e, List.length_drop]; omega
    exact Nat.le_trans h1 hs
  refine (number_any _ hz w).mono fun e' w' ⟨h1, h2⟩ => ⟨?_, h2⟩
  rw [h1, e, hr.out]; rfl

theorem rnum_nil (w : World) : Calls Try.prog 33 #[.pointer none] w fun e w' => e = .returned (.int .u64 0) ∧ w = w' := by
  go_enter Try.func33, Try.ntmps33
  go_wp2_with (go_at_call 37; refine (err_nil _).mono ?_; rintro e w' ⟨rfl, rfl⟩)
  go_ret
  exact ⟨rfl, rfl⟩
theorem rnum_bad {w : World} {a : Nat} {s : ByteArray} {at_ : Nat} {err : Int} (h : RdAt 56 w a s at_ err) (he : (err == 0) = false) :
    Calls Try.prog 33 #[.pointer (some ⟨a, 0, none⟩)] w fun e w' => e = .returned (.int .u64 0) ∧ w = w' := by
  have he' : (err != 0) = true := by simp [bne, he]
  go_enter Try.func33, Try.ntmps33
  go_wp2_with (go_at_call 37; refine (err_any h).mono ?_; rintro e w' ⟨rfl, rfl⟩)
  go_ret
  exact ⟨rfl, rfl⟩
theorem rnum_ok {w : World} {a : Nat} {s : ByteArray} {at_ : Nat} (h : RdAt 56 w a s at_ 0) (hs : s.size ≤ 1000000) (ha : at_ ≤ s.size) :
    Calls Try.prog 33 #[.pointer (some ⟨a, 0, none⟩)] w fun e w' => e = .returned (.int .u64 (rnum (s.data.toList.drop at_)).1) ∧
      RdAt 56 w' a s (at_ + (rnum (s.data.toList.drop at_)).2.1) (rnum (s.data.toList.drop at_)).2.2 ∧ w.grownBy w' (some a) := by
  have hy : (rnum (s.data.toList.drop at_)).2.1 ≤ s.size := by
    have := rnum_len (s.data.toList.drop at_); simp at this; omega
  obtain ⟨x, y, z, hr⟩ : ∃ x y z, rnum (s.data.toList.drop at_) = (x, y, z) := ⟨_, _, _, rfl⟩
  rw [hr] at hy ⊢
  have HR := Lib.hid hr
  clear hr
  have hy' : y ≤ 1000000 := by simp at hy; omega
  clear hy
  have c0 := rd0 h
  have c1 := rd1 h
  have c2 := rd2 h
  have f1 := free_in h 1
  have f2 := free_in h 2
  have H := Lib.hid h
  clear h
  go_enter Try.func33, Try.ntmps33
  go_wp2_with (go_at_call 37; refine (err_any H.out).mono ?_; rintro e w' ⟨rfl, rfl⟩)
  go_quiet ((go_at_call 43; exact quiet_eq (number_sub hs HR _)))
  go_wp2
  go_ret
  refine ⟨rfl, ?_, ((grown_drewN w nq _).trans (grown_set _ _ _ _)).trans (grown_set _ _ _ _)⟩
  exact heap_set (heap_set (rd_drewN H.out nq) 1 _) 2 _

/-! what a reader answers, and where it is behind it -/
def dNum (l : List UInt8) (at_ : Nat) (err : Int) : Nat × Nat × Int :=
  if err = 0 then ((rnum (l.drop at_)).1, at_ + (rnum (l.drop at_)).2.1, ((rnum (l.drop at_)).2.2 : Int)) else (0, at_, err)
def dTake (l : List UInt8) (at_ : Nat) (err n : Int) : List UInt8 × Nat × Int :=
  if err = 0 then (if n < 0 ∨ (l.length : Int) - at_ < n then ([], at_, 3) else ((l.drop at_).take n.toNat, at_ + n.toNat, 0)) else ([], at_, err)
theorem dNum_at {l : List UInt8} {at_ : Nat} {err : Int} (h : at_ ≤ l.length) : (dNum l at_ err).2.1 ≤ l.length := by
  unfold dNum; split
  · have := rnum_len (l.drop at_); simp at this; simp; omega
  · exact h
theorem dNum_lt (l : List UInt8) (at_ : Nat) (err : Int) : (dNum l at_ err).1 < 18446744073709551616 := by
  unfold dNum; split
  · exact rnum_lt _
  · show (0 : Nat) < _; decide
theorem dTake_at {l : List UInt8} {at_ : Nat} {err n : Int} (h : at_ ≤ l.length) : (dTake l at_ err n).2.1 ≤ l.length := by
  unfold dTake; split
  · split
    · exact h
    · simp; omega
  · exact h
theorem dTake_len {l : List UInt8} {at_ : Nat} {err n : Int} : (dTake l at_ err n).1.length ≤ l.length := by
  unfold dTake; split
  · split
    · simp
    · simp; omega
  · simp
theorem dNum_ok (l : List UInt8) (at_ : Nat) : dNum l at_ 0 = ((rnum (l.drop at_)).1, at_ + (rnum (l.drop at_)).2.1, ((rnum (l.drop at_)).2.2 : Int)) := if_pos rfl
theorem dNum_bad {l : List UInt8} {at_ : Nat} {err : Int} (h : err ≠ 0) : dNum l at_ err = (0, at_, err) := if_neg h
theorem dTake_bad {l : List UInt8} {at_ : Nat} {err n : Int} (h : err ≠ 0) : dTake l at_ err n = ([], at_, err) := if_neg h
theorem dTake_short {l : List UInt8} {at_ : Nat} {n : Int} (h : n < 0 ∨ (l.length : Int) - at_ < n) : dTake l at_ 0 n = ([], at_, 3) := by unfold dTake; rw [if_pos rfl, if_pos h]
theorem dTake_ok {l : List UInt8} {at_ : Nat} {n : Int} (h : 0 ≤ n) (h2 : n ≤ (l.length : Int) - at_) : dTake l at_ 0 n = ((l.drop at_).take n.toNat, at_ + n.toNat, 0) := by unfold dTake; rw [if_pos rfl, if_neg (by omega)]
attribute [irreducible] dNum dTake
def RdPost (t : TypeId) (w : World) (a : Nat) (s : ByteArray) (v : Value) (p : Nat × Int) (e : Ending) (w' : World) : Prop :=
  e = .returned v ∧ RdAt t w' a s p.1 p.2 ∧ w.grownBy w' (some a)
theorem size_len (s : ByteArray) : s.data.toList.length = s.size := rfl
theorem grown_refl (w : World) (row : Option Nat) : w.grownBy w row := ⟨rfl, rfl, rfl, Nat.le_refl _, fun _ _ _ => rfl⟩

theorem rnum_any {w : World} {a : Nat} {s : ByteArray} {at_ : Nat} {err : Int} (h : RdAt 56 w a s at_ err) (hs : s.size ≤ 1000000) (ha : at_ ≤ s.size) :
    Calls Try.prog 33 #[.pointer (some ⟨a, 0, none⟩)] w (RdPost 56 w a s (.int .u64 (dNum s.data.toList at_ err).1) (dNum s.data.toList at_ err).2) := by
  by_cases he : err = 0
  · subst he
    rw [dNum_ok]
    exact rnum_ok h hs ha
  · rw [dNum_bad he]
    exact (rnum_bad h (by simpa using he)).mono fun e w' ⟨h1, h2⟩ => by subst h2; exact ⟨h1, h, grown_refl _ _⟩

theorem cut_nil (n : Int) (w : World) : Calls Try.prog 41 #[.pointer none, .int .i64 n] w fun e w' => e = .returned (.string (bs [])) ∧ w = w' := by
  go_enter Try.func41, Try.ntmps41
  go_wp2_with (go_at_call 37; refine (err_nil _).mono ?_; rintro e w' ⟨rfl, rfl⟩)
  go_ret
  exact ⟨rfl, rfl⟩
theorem cut_bad {w : World} {a : Nat} {s : ByteArray} {at_ : Nat} {err : Int} (n : Int) (h : RdAt 56 w a s at_ err) (he : (err == 0) = false) :
    Calls Try.prog 41 #[.pointer (some ⟨a, 0, none⟩), .int .i64 n] w fun e w' => e = .returned (.string (bs [])) ∧ w = w' := by
  have he' : (err != 0) = true := by simp [bne, he]
  go_enter Try.func41, Try.ntmps41
  go_wp2_with (go_at_call 37; refine (err_any h).mono ?_; rintro e w' ⟨rfl, rfl⟩)
  go_ret
  exact ⟨rfl, rfl⟩
theorem left_held {w : World} {a : Nat} {s : ByteArray} {at_ : Nat} {err : Int} (h : Hid (RdAt 56 w a s at_ err)) (hs : s.size ≤ 1000000) (ha : at_ ≤ s.size) :
    Calls Try.prog 36 #[.pointer (some ⟨a, 0, none⟩)] w fun e w' => e = .returned (.int .i64 ((s.size : Int) - at_)) ∧ ∃ k, w' = w.drewN k := left_any h.out hs ha
theorem cut_low {w : World} {a : Nat} {s : ByteArray} {at_ : Nat} (n : Int) (h : RdAt 56 w a s at_ 0) (hn : n < 0) :
    Calls Try.prog 41 #[.pointer (some ⟨a, 0, none⟩), .int .i64 n] w (RdPost 56 w a s (.string (bs [])) (at_, 3)) := by
  have c2 := rd2 h
  have f2 := free_in h 2
  have H := Lib.hid h
  clear h
  go_enter Try.func41, Try.ntmps41
  go_wp2_with (go_at_call 37; refine (err_any H.out).mono ?_; rintro e w' ⟨rfl, rfl⟩)
  go_ret
  exact ⟨rfl, heap_set H.out 2 _, grown_set _ _ _ _⟩
theorem cut_far {w : World} {a : Nat} {s : ByteArray} {at_ : Nat} (n : Int) (h : RdAt 56 w a s at_ 0) (hs : s.size ≤ 1000000) (ha : at_ ≤ s.size) (hn : (s.size : Int) - at_ < n) :
    Calls Try.prog 41 #[.pointer (some ⟨a, 0, none⟩), .int .i64 n] w (RdPost 56 w a s (.string (bs [])) (at_, 3)) := by
  have c2 := rd2 h
  have f2 := free_in h 2
  have H := Lib.hid h
  clear h
  have h0 : ¬ n < 0 := by omega
  go_enter Try.func41, Try.ntmps41
  go_wp2_with (first
    | (go_at_call 37; refine (err_any H.out).mono ?_; rintro e w' ⟨rfl, rfl⟩)
    | (go_at_call 36; refine (left_held H hs ha).mono ?_; rintro e w' ⟨rfl, k, rfl⟩))
  go_ret
  exact ⟨rfl, heap_set (rd_drewN H.out k) 2 _, (grown_drewN w k _).trans (grown_set _ _ _ _)⟩
theorem cut_ok {w : World} {a : Nat} {s : ByteArray} {at_ : Nat} (n : Nat) (h : RdAt 56 w a s at_ 0) (hs : s.size ≤ 1000000) (ha : at_ ≤ s.size) (hn : n ≤ s.size - at_) :
    Calls Try.prog 41 #[.pointer (some ⟨a, 0, none⟩), .int .i64 n] w (RdPost 56 w a s (.string (bs ((s.data.toList.drop at_).take n))) (at_ + n, 0)) := by
  have c0 := rd0 h
  have c1 := rd1 h
  have f1 := free_in h 1
  have H := Lib.hid h
  clear h
  have h0 : (n : Int) ≤ (s.size : Int) - at_ := by omega
  go_enter Try.func41, Try.ntmps41
  go_wp2_with (first
    | (go_at_call 37; refine (err_any H.out).mono ?_; rintro e w' ⟨rfl, rfl⟩)
    | (go_at_call 36; refine (left_held H hs ha).mono ?_; rintro e w' ⟨rfl, k, rfl⟩))
  have g1 : (at_ : Int) + n ≤ s.size := by omega
  have g2 : (0 : Int) ≤ (at_ : Int) + n := by omega
  have g3 : (at_ : Int) ≤ (at_ : Int) + n := by omega
  have g5 : at_ + n ≤ s.size := by omega
  have g4 : ((at_ : Int) + n).toNat = at_ + n := by omega
  go_quiet (fail)
  go_wp2
  go_ret
  have e : s.extract at_ (at_ + n) = bs ((s.data.toList.drop at_).take n) := by rw [Lib.extract_eq, Nat.add_sub_cancel_left]; rfl
  refine ⟨by rw [← e]; rfl, ?_, ((grown_drewN w k _).trans (grown_set _ _ _ _)).trans (grown_drewN _ nq _)⟩
  exact heap_set (rd_drewN H.out k) 1 _
theorem cut_any {w : World} {a : Nat} {s : ByteArray} {at_ : Nat} {err : Int} (n : Int) (h : RdAt 56 w a s at_ err) (hs : s.size ≤ 1000000) (ha : at_ ≤ s.size) :
    Calls Try.prog 41 #[.pointer (some ⟨a, 0, none⟩), .int .i64 n] w (RdPost 56 w a s (.string (bs (dTake s.data.toList at_ err n).1)) (dTake s.data.toList at_ err n).2) := by
  by_cases he : err = 0
  · subst he
    by_cases h0 : n < 0
    · rw [dTake_short (.inl h0)]; exact cut_low n h h0
    · by_cases h1 : (s.size : Int) - at_ < n
      · rw [dTake_short (.inr h1)]; exact cut_far n h hs ha h1
      · rw [dTake_ok (by omega) (by rw [size_len]; omega)]
        have := cut_ok n.toNat h hs ha (by omega)
        rw [show ((n.toNat : Nat) : Int) = n by omega] at this
        exact this
  · rw [dTake_bad he]
    exact (cut_bad n h (by simpa using he)).mono fun e w' ⟨h1, h2⟩ => by subst h2; exact ⟨h1, h, grown_refl _ _⟩

theorem clone_any (s : ByteArray) (w : World) (hs : Hid (s.size ≤ 281474976710656)) :
    Calls Try.prog 42 #[.string s] w fun e w' => e = .returned (.string s) ∧ Below w.heap.size w w' := by
  go_enter Try.func42, Try.ntmps42
  go_wp2_with (go_at_call 44; with_reducible refine (Try.stringslite_Clone s _ hs.out).mono ?_; rintro e w1 ⟨rfl, hb⟩)
  go_ret
  exact ⟨rfl, hb⟩
theorem take_nil (n : Int) (w : World) : Calls Try.prog 27 #[.pointer none, .int .i64 n] w fun e w' => e = .returned (.string (bs [])) ∧ Below w.heap.size w w' := by
  have hz : Hid ((bs []).size ≤ 281474976710656) := by show (bs []).size ≤ _; rw [bs_size]; decide
  go_enter Try.func27, Try.ntmps27
  go_wp2_with (first
    | (go_at_call 41; refine (cut_nil n _).mono ?_; rintro e w' ⟨rfl, rfl⟩)
    | (go_at_call 42; with_reducible refine (clone_any _ _ hz).mono ?_; rintro e w' ⟨rfl, hb⟩))
  go_ret
  exact ⟨rfl, hb⟩
theorem take_any {w : World} {a : Nat} {s : ByteArray} {at_ : Nat} {err : Int} (n : Int) (h : RdAt 56 w a s at_ err) (hs : s.size ≤ 1000000) (ha : at_ ≤ s.size) :
    Calls Try.prog 27 #[.pointer (some ⟨a, 0, none⟩), .int .i64 n] w (RdPost 56 w a s (.string (bs (dTake s.data.toList at_ err n).1)) (dTake s.data.toList at_ err n).2) := by
  have hl : Hid ((bs (dTake s.data.toList at_ err n).1).size ≤ 281474976710656) := by
    show (bs _).size ≤ _
    have := dTake_len (l := s.data.toList) (at_ := at_) (err := err) (n := n)
    rw [bs_size]; rw [size_len] at this; omega
  have HC := cut_any n h hs ha
  generalize dTake s.data.toList at_ err n = r at hl HC ⊢
  obtain ⟨l2, at2, err2⟩ := r
  have HC := Lib.hid HC
  clear h
  go_enter Try.func27, Try.ntmps27
  go_wp2_with (first
    | (go_at_call 41; refine HC.out.mono ?_; rintro e w1 ⟨rfl, h1, g1⟩; have H1 := Lib.hid h1; clear h1)
    | (go_at_call 42; with_reducible refine (clone_any _ _ hl).mono ?_; rintro e w2 ⟨rfl, hb⟩))
  go_ret
  exact ⟨rfl, by unfold RdAt; rw [hb.block a (rd_lt H1.out)]; exact H1.out, g1.trans (grown_below hb _)⟩

theorem fail_nil (e : Int) (w : World) : Calls Try.prog 29 #[.pointer none, .int .i64 e] w fun e' w' => e' = .returned (.tuple #[]) ∧ w = w' := by
  go_enter Try.func29, Try.ntmps29
  go_wp2_with (go_at_call 37; refine (err_nil _).mono ?_; rintro e w' ⟨rfl, rfl⟩)
  go_end0
  exact ⟨rfl, rfl⟩
def dFail (at_ : Nat) (err e : Int) : Nat × Int := if err = 0 then (at_, e) else (at_, err)
theorem fail_any {w : World} {a : Nat} {s : ByteArray} {at_ : Nat} {err : Int} (e : Int) (h : RdAt 56 w a s at_ err) :
    Calls Try.prog 29 #[.pointer (some ⟨a, 0, none⟩), .int .i64 e] w (RdPost 56 w a s (.tuple #[]) (dFail at_ err e)) := by
  have H := Lib.hid h
  by_cases he : err = 0
  · subst he
    rw [show dFail at_ 0 e = (at_, e) from if_pos rfl]
    have c2 := rd2 h
    have f2 := free_in h 2
    clear h
    go_enter Try.func29, Try.ntmps29
    go_wp2_with (go_at_call 37; refine (err_any H.out).mono ?_; rintro e w' ⟨rfl, rfl⟩)
    go_end0
    exact ⟨rfl, heap_set H.out 2 _, grown_set _ _ _ _⟩
  · rw [show dFail at_ err e = (at_, err) from if_neg he]
    have he' : (err == 0) = false := by simpa using he
    clear h he
    go_enter Try.func29, Try.ntmps29
    go_wp2_with (go_at_call 37; refine (err_any H.out).mono ?_; rintro e w' ⟨rfl, rfl⟩)
    go_end0
    exact ⟨rfl, H.out, grown_refl _ _⟩
def dEnd (n at_ : Nat) (err : Int) : Int := if err = 0 then (if at_ < n then 4 else 0) else err
theorem end_nil (w : World) : Calls Try.prog 31 #[.pointer none] w fun e' w' => e' = .returned (.int .i64 1) ∧ w = w' := by
  go_enter Try.func31, Try.ntmps31
  go_wp2_with (go_at_call 37; refine (err_nil _).mono ?_; rintro e w' ⟨rfl, rfl⟩)
  go_ret
  exact ⟨rfl, rfl⟩
theorem end_any {w : World} {a : Nat} {s : ByteArray} {at_ : Nat} {err : Int} (h : RdAt 56 w a s at_ err) (hs : s.size ≤ 1000000) (ha : at_ ≤ s.size) :
    Calls Try.prog 31 #[.pointer (some ⟨a, 0, none⟩)] w fun e' w' => e' = .returned (.int .i64 (dEnd s.size at_ err)) ∧ ∃ k, w' = w.drewN k := by
  have H := Lib.hid h
  clear h
  by_cases he : err = 0
  · subst he
    by_cases hl : at_ < s.size
    · rw [show dEnd s.size at_ 0 = 4 by unfold dEnd; rw [if_pos rfl, if_pos hl]]
      go_enter Try.func31, Try.ntmps31
      go_wp2_with (first
        | (go_at_call 37; refine (err_any H.out).mono ?_; rintro e w' ⟨rfl, rfl⟩)
        | (go_at_call 36; refine (left_held H hs ha).mono ?_; rintro e w' ⟨rfl, k, rfl⟩))
      go_ret
      exact ⟨rfl, _, rfl⟩
    · rw [show dEnd s.size at_ 0 = 0 by unfold dEnd; rw [if_pos rfl, if_neg hl]]
      have hl' : s.size = at_ := by omega
      have h3 : (s.size : Int) - at_ ≤ 0 := by omega
      clear hl hl'
      go_enter Try.func31, Try.ntmps31
      go_wp2_with (first
        | (go_at_call 37; refine (err_any H.out).mono ?_; rintro e w' ⟨rfl, rfl⟩)
        | (go_at_call 36; refine (left_held H hs ha).mono ?_; rintro e w' ⟨rfl, k, rfl⟩))
      go_ret
      exact ⟨rfl, _, rfl⟩
  · rw [show dEnd s.size at_ err = err from if_neg he]
    have he' : (err == 0) = false := by simpa using he
    have he2 : (err != 0) = true := by simpa using he
    clear he
    go_enter Try.func31, Try.ntmps31
    go_wp2_with (go_at_call 37; refine (err_any H.out).mono ?_; rintro e w' ⟨rfl, rfl⟩)
    go_ret
    exact ⟨rfl, 0, rfl⟩
theorem dFail_at (at_ : Nat) (err e : Int) : (dFail at_ err e).1 = at_ := by unfold dFail; split <;> rfl
theorem dFail_ok (at_ : Nat) (e : Int) : dFail at_ 0 e = (at_, e) := if_pos rfl
theorem dFail_bad {at_ : Nat} {err e : Int} (h : err ≠ 0) : dFail at_ err e = (at_, err) := if_neg h
theorem dEnd_form {n at_ : Nat} (h : at_ < n) : dEnd n at_ 0 = 4 := by unfold dEnd; rw [if_pos rfl, if_pos h]
theorem dEnd_ok {n at_ : Nat} (h : ¬ at_ < n) : dEnd n at_ 0 = 0 := by unfold dEnd; rw [if_pos rfl, if_neg h]
theorem dEnd_bad {n at_ : Nat} {err : Int} (h : err ≠ 0) : dEnd n at_ err = err := if_neg h
attribute [irreducible] dFail dEnd
end Go.Proofs.Ytgpifihghklgfaa
