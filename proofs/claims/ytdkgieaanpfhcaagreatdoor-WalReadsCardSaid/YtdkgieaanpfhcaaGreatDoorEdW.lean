/-
  The document's Go text of a reader, walked: Num, Take, Text, Fail, End. Conditions: as each theorem states.
-/
import Derived.Test.YtdkgieaanpfhcaaGreatDoorBaR
namespace Go.Proofs.YtdkgieaanpfhcaaGreatDoor
open Go.RowKit
open Vi

theorem qnum_bad {w : World} {a : Nat} {s : ByteArray} {at_ : Nat} {err : Int} (h : RdAt 103 w a s at_ err) (he : (err == 0) = false) :
    Calls Tryz.prog 51 #[.pointer (some ⟨a, 0, none⟩)] w fun e w' => e = .returned (.int .u64 0) ∧ w = w' := by
  have he' : (err != 0) = true := by simp [bne, he]
  have c2 := rd2 h
  go_enter Tryz.func51, Tryz.ntmps51
  go_wp2
  go_ret
  exact ⟨rfl, rfl⟩
def QJ (s : ByteArray) (at_ : Nat) (w : World) (x u i : Value) (wr : World) : Prop :=
  ∃ k n m j : Nat, k ≤ 9 ∧ at_ + k ≤ s.size ∧ m = 128 ^ k ∧ n < m ∧ rgo (s.data.toList.drop (at_ + k)) k n = rnum (s.data.toList.drop at_) ∧ x = .int .u64 n ∧ u = .int .u64 m ∧ i = .int .i64 k ∧ wr = w.drewN j
theorem qend_bad {w : World} {a : Nat} {s : ByteArray} {at_ : Nat} {e : Nat} (H : Hid (RdAt 103 w a s at_ 0)) (h : rnum (s.data.toList.drop at_) = (0, 0, e)) (j : Nat) :
    RdPost 103 w a s (.int .u64 (rnum (s.data.toList.drop at_)).1) (at_ + (rnum (s.data.toList.drop at_)).2.1, ((rnum (s.data.toList.drop at_)).2.2 : Int)) (.returned (.int .u64 0)) ((w.drewN j).setCell ⟨a, 2, none⟩ (.int .i64 (e : Int))) := by
  rw [h]
  exact ⟨rfl, heap_set (rd_drewN H.out j) 2 _, (grown_drewN w j _).trans (grown_set _ _ _ _)⟩
theorem qend_ok {w : World} {a : Nat} {s : ByteArray} {at_ : Nat} {v k : Nat} {x y : Int} (H : Hid (RdAt 103 w a s at_ 0)) (h : rnum (s.data.toList.drop at_) = (v, k, 0)) (hx : x = v) (hy : y = ((at_ + k : Nat) : Int)) (j : Nat) :
    RdPost 103 w a s (.int .u64 (rnum (s.data.toList.drop at_)).1) (at_ + (rnum (s.data.toList.drop at_)).2.1, ((rnum (s.data.toList.drop at_)).2.2 : Int)) (.returned (.int .u64 x)) ((w.drewN j).setCell ⟨a, 1, none⟩ (.int .i64 y)) := by
  rw [h, hx, hy]
  exact ⟨rfl, heap_set (rd_drewN H.out j) 1 _, (grown_drewN w j _).trans (grown_set _ _ _ _)⟩
theorem qacc {n m k : Nat} {c : UInt8} (HM : Hid (m = 128 ^ k)) (hn : n < m) (hk : k ≤ 9) (h9 : k < 9 ∨ c.toNat ≤ 1) :
    IntKind.u64.wrap ((n : Int) + IntKind.u64.wrap ((m : Int) * ((c.toNat : Int) % 128))) = ((n + 128 ^ k * (c.toNat % 128) : Nat) : Int) := by
  have hm := HM.out
  have hp := pow_le hk
  have hc := c.toNat_lt
  have hle : m * (c.toNat % 128) ≤ 9223372036854775808 := by
    rcases h9 with h9 | h9
    · have := pow_le8 h9
      have h2 : c.toNat % 128 ≤ 127 := by omega
      have := Nat.mul_le_mul (show m ≤ 72057594037927936 by omega) h2
      omega
    · have h2 : c.toNat % 128 ≤ 1 := by omega
      have := Nat.mul_le_mul (show m ≤ 9223372036854775808 by omega) h2
      omega
  have e1 : (m : Int) * ((c.toNat : Int) % 128) = ((m * (c.toNat % 128) : Nat) : Int) := by rw [Int.natCast_mul]; rfl
  rw [e1, ← hm]
  simp only [IntKind.wrap_u64]; omega
theorem qunit {m k : Nat} (HM : Hid (m = 128 ^ k)) (hk : k < 9) : IntKind.u64.wrap ((m : Int) * 128) = ((128 ^ (k + 1) : Nat) : Int) := by
  have hm := HM.out
  have := pow_le8 hk
  rw [Nat.pow_succ, ← hm, IntKind.wrap_u64]; omega
set_option maxRecDepth 100000 in
set_option maxHeartbeats 4000000 in
theorem qnum_ok {w : World} {a : Nat} {s : ByteArray} {at_ : Nat} (h : RdAt 103 w a s at_ 0) (hs : s.size ≤ 1000000) (ha : at_ ≤ s.size) :
    Calls Tryz.prog 51 #[.pointer (some ⟨a, 0, none⟩)] w
      (RdPost 103 w a s (.int .u64 (rnum (s.data.toList.drop at_)).1) (at_ + (rnum (s.data.toList.drop at_)).2.1, ((rnum (s.data.toList.drop at_)).2.2 : Int))) := by
  have c0 := rd0 h
  have c1 := rd1 h
  have c2 := rd2 h
  have f1 := free_in h 1
  have f2 := free_in h 2
  have H := Lib.hid h
  clear h
  go_enter Tryz.func51, Tryz.ntmps51
  go_wp2
  go_loopw [3, 4, 5] (QJ s at_ w) (fun _ _ i _ => s.size + 1 - (intOf i).toNat)
  case atStart => exact ⟨0, 0, 1, 0, by omega, by omega, rfl, by omega, by rw [Nat.add_zero]; exact (rnum_eq _).symm, rfl, rfl, rfl, rfl⟩
  case round =>
    obtain ⟨k, n, m, j, hk, hak, hm, hn, hr, rfl, rfl, rfl, rfl⟩ := hrel
    have HR := Lib.hid hr
    have HM := Lib.hid hm
    have hm63 : m ≤ 9223372036854775808 := by rw [hm]; exact pow_le hk
    clear hr hm
    have g1 : IntKind.i64.wrap ((at_ : Int) + k) = (at_ : Int) + k := IntWalk.i64_in _ (by omega)
    have g2 : (0 : Int) ≤ (at_ : Int) + k := by omega
    have g3 : ((at_ : Int) + k).toNat = at_ + k := by omega
    by_cases hz : at_ + k < s.size
    · have hz' : ¬ ((s.size : Int) ≤ (at_ : Int) + k) := by omega
      have hz2 : (at_ : Int) + k < (s.size : Int) := by omega
      have hc8 := (s[at_ + k]'hz).toNat_lt
      by_cases h9 : k = 9
      · have h9' : ((k : Int) == 9) = true := by simp; omega
        by_cases hc : 1 < (s[at_ + k]'hz).toNat
        · have hc' : (1 : Int) < ((s[at_ + k]'hz).toNat : Int) := by omega
          have H9 := Lib.hid h9
          clear h9
          go_wp2
          go_quiet (fail)
          go_wp2
          go_quiet (fail)
          clear g1
          go_wp2
          go_ret
          exact qend_bad H (show rnum (s.data.toList.drop at_) = (0, 0, 8) by rw [← HR.out, drop_at s _ hz, rgo_range H9.out hc]) _
        · have hc' : ¬ (1 : Int) < ((s[at_ + k]'hz).toNat : Int) := by omega
          have hc1 : (s[at_ + k]'hz).toNat ≤ 1 := by omega
          have hk0 : (0 : Int) < k := by omega
          have H9 := Lib.hid h9
          clear h9
          by_cases hc0 : (s[at_ + k]'hz).toNat = 0
          · have hc0' : (((s[at_ + k]'hz).toNat : Int) == 0) = true := by simp [hc0]
            have HC := Lib.hid hc0
            clear hc0
            go_wp2
            go_quiet (fail)
            go_wp2
            go_quiet (fail)
            clear g1
            go_wp2
            go_ret
            exact qend_bad H (show rnum (s.data.toList.drop at_) = (0, 0, 4) by rw [← HR.out, drop_at s _ hz, rgo_form (by omega) HC.out]) _
          · have hc0' : (((s[at_ + k]'hz).toNat : Int) == 0) = false := by simp [hc0]
            go_wp2
            go_quiet (fail)
            go_wp2
            go_quiet (fail)
            clear g1
            go_wp2
            go_ret
            exact qend_ok H (show rnum (s.data.toList.drop at_) = (n + 128 ^ k * (s[at_ + k]'hz).toNat, k + 1, 0) by rw [← HR.out, drop_at s _ hz, rgo_last (.inr hc1) (by omega) (.inl hc0)]) (by rw [qacc HM hn hk (.inr hc1), Nat.mod_eq_of_lt (by omega)]) (by omega) _
      · have h9' : ((k : Int) == 9) = false := by simp; omega
        by_cases hc : 127 < (s[at_ + k]'hz).toNat
        · have hc' : (127 : Int) < ((s[at_ + k]'hz).toNat : Int) := by omega
          go_wp2
          go_quiet (fail)
          go_wp2
          go_quiet (fail)
          clear g1
          go_wp2
          go_roundw
          case rel => exact ⟨k + 1, n + 128 ^ k * ((s[at_ + k]'hz).toNat % 128), 128 ^ (k + 1), _, by omega, by omega, rfl, by
            have hm2 : (s[at_ + k]'hz).toNat % 128 ≤ 127 := by omega
            have := Nat.mul_le_mul_left (128 ^ k) hm2
            have := HM.out
            rw [Nat.pow_succ]; omega, by rw [← HR.out, drop_at s _ hz, rgo_more (by omega) (by omega)]; rfl, val_int (qacc HM hn hk (by omega)), val_int (qunit HM (by omega)), by go_num, rfl⟩
          case measure => simp [intOf]; omega
        · have hc' : ¬ (127 : Int) < ((s[at_ + k]'hz).toNat : Int) := by omega
          by_cases hc0 : (s[at_ + k]'hz).toNat = 0
          · have hc0' : (((s[at_ + k]'hz).toNat : Int) == 0) = true := by simp [hc0]
            have HC := Lib.hid hc0
            clear hc0
            by_cases hk0 : 0 < k
            · have hk0' : (0 : Int) < k := by omega
              go_wp2
              go_quiet (fail)
              go_wp2
              go_quiet (fail)
              clear g1
              go_wp2
              go_ret
              exact qend_bad H (show rnum (s.data.toList.drop at_) = (0, 0, 4) by rw [← HR.out, drop_at s _ hz, rgo_form (by omega) HC.out]) _
            · have hk0' : ¬ (0 : Int) < k := by omega
              have hk1 : k = 0 := by omega
              have HK := Lib.hid hk1
              clear hk1
              go_wp2
              go_quiet (fail)
              go_wp2
              go_quiet (fail)
              clear g1
              go_wp2
              go_ret
              exact qend_ok H (show rnum (s.data.toList.drop at_) = (n + 128 ^ k * (s[at_ + k]'hz).toNat, k + 1, 0) by rw [← HR.out, drop_at s _ hz, rgo_last (by omega) (by omega) (.inr HK.out)]) (by rw [HC.out, Nat.mul_zero, Nat.add_zero]; simp only [IntKind.wrap_u64]; omega) (by omega) _
          · have hc0' : (((s[at_ + k]'hz).toNat : Int) == 0) = false := by simp [hc0]
            go_wp2
            go_quiet (fail)
            go_wp2
            go_quiet (fail)
            clear g1
            go_wp2
            go_ret
            exact qend_ok H (show rnum (s.data.toList.drop at_) = (n + 128 ^ k * (s[at_ + k]'hz).toNat, k + 1, 0) by rw [← HR.out, drop_at s _ hz, rgo_last (by omega) (by omega) (.inl hc0)]) (by rw [qacc HM hn hk (by omega), Nat.mod_eq_of_lt (by omega)]) (by omega) _
    · have hz' : (s.size : Int) ≤ (at_ : Int) + k := by omega
      go_wp2
      go_quiet (fail)
      clear g1
      go_wp2
      go_ret
      exact qend_bad H (show rnum (s.data.toList.drop at_) = (0, 0, 3) by rw [← HR.out, List.drop_of_length_le (by rw [size_len]; omega), rgo_nil]) _
theorem qnum_any {w : World} {a : Nat} {s : ByteArray} {at_ : Nat} {err : Int} (h : RdAt 103 w a s at_ err) (hs : s.size ≤ 1000000) (ha : at_ ≤ s.size) :
    Calls Tryz.prog 51 #[.pointer (some ⟨a, 0, none⟩)] w (RdPost 103 w a s (.int .u64 (dNum s.data.toList at_ err).1) (dNum s.data.toList at_ err).2) := by
  by_cases he : err = 0
  · subst he
    rw [dNum_ok]
    exact qnum_ok h hs ha
  · rw [dNum_bad he]
    exact (qnum_bad h (by simpa using he)).mono fun e w' ⟨h1, h2⟩ => by subst h2; exact ⟨h1, h, grown_refl _ _⟩
theorem qtake_bad {w : World} {a : Nat} {s : ByteArray} {at_ : Nat} {err : Int} (n : Int) (h : RdAt 103 w a s at_ err) (he : (err == 0) = false) :
    Calls Tryz.prog 94 #[.pointer (some ⟨a, 0, none⟩), .int .i64 n] w fun e w' => e = .returned (.string (bs [])) ∧ w = w' := by
  have he' : (err != 0) = true := by simp [bne, he]
  have c2 := rd2 h
  go_enter Tryz.func94, Tryz.ntmps94
  go_wp2
  go_ret
  exact ⟨rfl, rfl⟩
theorem qtake_low {w : World} {a : Nat} {s : ByteArray} {at_ : Nat} (n : Int) (h : RdAt 103 w a s at_ 0) (hn : n < 0) :
    Calls Tryz.prog 94 #[.pointer (some ⟨a, 0, none⟩), .int .i64 n] w (RdPost 103 w a s (.string (bs [])) (at_, 3)) := by
  have c2 := rd2 h
  have f2 := free_in h 2
  have H := Lib.hid h
  clear h
  go_enter Tryz.func94, Tryz.ntmps94
  go_wp2
  go_quiet (fail)
  go_wp2
  go_ret
  exact ⟨rfl, heap_set (rd_drewN H.out nq) 2 _, (grown_drewN w nq _).trans (grown_set _ _ _ _)⟩
theorem qtake_far {w : World} {a : Nat} {s : ByteArray} {at_ : Nat} (n : Int) (h : RdAt 103 w a s at_ 0) (hs : s.size ≤ 1000000) (ha : at_ ≤ s.size) (hn : (s.size : Int) - at_ < n) :
    Calls Tryz.prog 94 #[.pointer (some ⟨a, 0, none⟩), .int .i64 n] w (RdPost 103 w a s (.string (bs [])) (at_, 3)) := by
  have c0 := rd0 h
  have c1 := rd1 h
  have c2 := rd2 h
  have f2 := free_in h 2
  have H := Lib.hid h
  clear h
  have h0 : decide (n < 0) = false := by simp; omega
  have g1 : IntKind.i64.wrap ((s.size : Int) - at_) = (s.size : Int) - at_ := IntWalk.i64_in _ (by omega)
  go_enter Tryz.func94, Tryz.ntmps94
  go_wp2
  go_quiet (fail)
  clear g1
  go_wp2
  go_ret
  exact ⟨rfl, heap_set (rd_drewN H.out nq) 2 _, (grown_drewN w nq _).trans (grown_set _ _ _ _)⟩
theorem qtake_ok {w : World} {a : Nat} {s : ByteArray} {at_ : Nat} (n : Nat) (h : RdAt 103 w a s at_ 0) (hs : s.size ≤ 1000000) (ha : at_ ≤ s.size) (hn : n ≤ s.size - at_) :
    Calls Tryz.prog 94 #[.pointer (some ⟨a, 0, none⟩), .int .i64 n] w (RdPost 103 w a s (.string (bs ((s.data.toList.drop at_).take n))) (at_ + n, 0)) := by
  have c0 := rd0 h
  have c1 := rd1 h
  have c2 := rd2 h
  have f1 := free_in h 1
  have H := Lib.hid h
  clear h
  have h00 : ¬ (n : Int) < 0 := by omega
  have h0 : decide ((n : Int) < 0) = false := by simp
  have h1 : ¬ (s.size : Int) - at_ < n := by omega
  have k1 : (at_ : Int) + n ≤ s.size := by omega
  have k2 : (0 : Int) ≤ (at_ : Int) + n := by omega
  have k3 : (at_ : Int) ≤ (at_ : Int) + n := by omega
  have k5 : at_ + n ≤ s.size := by omega
  have k4 : ((at_ : Int) + n).toNat = at_ + n := by omega
  have g1 : IntKind.i64.wrap ((s.size : Int) - at_) = (s.size : Int) - at_ := IntWalk.i64_in _ (by omega)
  have g2 : IntKind.i64.wrap ((at_ : Int) + n) = (at_ : Int) + n := IntWalk.i64_in _ (by omega)
  go_enter Tryz.func94, Tryz.ntmps94
  go_wp2
  go_quiet (fail)
  go_wp2
  go_quiet (fail)
  clear g1 g2
  go_wp2
  go_ret
  have e : s.extract at_ (at_ + n) = bs ((s.data.toList.drop at_).take n) := by rw [Lib.extract_eq, Nat.add_sub_cancel_left]; rfl
  exact ⟨by rw [← e]; rfl, heap_set (rd_drewN H.out _) 1 _, (grown_drewN w _ _).trans (grown_set _ _ _ _)⟩
theorem qtake_any {w : World} {a : Nat} {s : ByteArray} {at_ : Nat} {err : Int} (n : Int) (h : RdAt 103 w a s at_ err) (hs : s.size ≤ 1000000) (ha : at_ ≤ s.size) :
    Calls Tryz.prog 94 #[.pointer (some ⟨a, 0, none⟩), .int .i64 n] w (RdPost 103 w a s (.string (bs (dTake s.data.toList at_ err n).1)) (dTake s.data.toList at_ err n).2) := by
  by_cases he : err = 0
  · subst he
    by_cases h0 : n < 0
    · rw [dTake_short (.inl h0)]; exact qtake_low n h h0
    · by_cases h1 : (s.size : Int) - at_ < n
      · rw [dTake_short (.inr h1)]; exact qtake_far n h hs ha h1
      · rw [dTake_ok (by omega) (by rw [size_len]; omega)]
        have := qtake_ok n.toNat h hs ha (by omega)
        rw [show ((n.toNat : Nat) : Int) = n by omega] at this
        exact this
  · rw [dTake_bad he]
    exact (qtake_bad n h (by simpa using he)).mono fun e w' ⟨h1, h2⟩ => by subst h2; exact ⟨h1, h, grown_refl _ _⟩
theorem qfail_any {w : World} {a : Nat} {s : ByteArray} {at_ : Nat} {err : Int} (e : Int) (h : RdAt 103 w a s at_ err) :
    Calls Tryz.prog 52 #[.pointer (some ⟨a, 0, none⟩), .int .i64 e] w (RdPost 103 w a s (.tuple #[]) (dFail at_ err e)) := by
  have H := Lib.hid h
  by_cases he : err = 0
  · subst he
    rw [dFail_ok]
    have c2 := rd2 h
    have f2 := free_in h 2
    clear h
    go_enter Tryz.func52, Tryz.ntmps52
    go_wp2
    go_end0
    exact ⟨rfl, heap_set H.out 2 _, grown_set _ _ _ _⟩
  · rw [dFail_bad he]
    have he' : (err == 0) = false := by simpa using he
    have c2 := rd2 h
    clear h he
    go_enter Tryz.func52, Tryz.ntmps52
    go_wp2
    go_end0
    exact ⟨rfl, H.out, grown_refl _ _⟩
theorem qend_any {w : World} {a : Nat} {s : ByteArray} {at_ : Nat} {err : Int} (h : RdAt 103 w a s at_ err) (hs : s.size ≤ 1000000) (ha : at_ ≤ s.size) :
    Calls Tryz.prog 54 #[.pointer (some ⟨a, 0, none⟩)] w fun e' w' => e' = .returned (.int .i64 (dEnd s.size at_ err)) ∧ ∃ k, w' = w.drewN k := by
  have c0 := rd0 h
  have c1 := rd1 h
  have c2 := rd2 h
  have H := Lib.hid h
  clear h
  by_cases he : err = 0
  · subst he
    by_cases hl : at_ < s.size
    · rw [dEnd_form hl]
      have hl' : (at_ : Int) < s.size := by omega
      go_enter Tryz.func54, Tryz.ntmps54
      go_wp2
      go_quiet (fail)
      go_wp2
      go_ret
      exact ⟨rfl, _, rfl⟩
    · rw [dEnd_ok hl]
      have hl' : ¬ (at_ : Int) < s.size := by omega
      go_enter Tryz.func54, Tryz.ntmps54
      go_wp2
      go_quiet (fail)
      go_wp2
      go_ret
      exact ⟨rfl, _, rfl⟩
  · rw [dEnd_bad he]
    have he' : (err == 0) = false := by simpa using he
    clear he
    go_enter Tryz.func54, Tryz.ntmps54
    go_wp2
    go_quiet (fail)
    go_wp2
    go_ret
    exact ⟨rfl, _, rfl⟩
theorem qtext_any {w : World} {a : Nat} {s : ByteArray} {at_ : Nat} {err : Int} (most : Int) (hmo : most ≤ 9223372036854775807) (h : RdAt 103 w a s at_ err) (hs : s.size ≤ 1000000) (ha : at_ ≤ s.size) :
    Calls Tryz.prog 53 #[.pointer (some ⟨a, 0, none⟩), .int .i64 most] w (RdPost 103 w a s (.string (bs (dText s.data.toList at_ err most).1)) (dText s.data.toList at_ err most).2) := by
  have hl := dNum_lt s.data.toList at_ err
  have ha2 := dNum_at (l := s.data.toList) (at_ := at_) (err := err) ha
  have HC := qnum_any h hs ha
  rw [dText_eq]
  generalize dNum s.data.toList at_ err = r at hl HC ha2 ⊢
  obtain ⟨n, at2, err2⟩ := r
  simp only [] at hl ha2 ⊢
  have ha3 : Hid (at2 ≤ s.size) := ha2
  have HC := Lib.hid HC
  clear h ha2
  by_cases hm0 : most < 0
  · rw [show max most 0 = 0 by omega]
    by_cases hc : 0 < n
    · rw [if_pos (by omega)]
      go_enter Tryz.func53, Tryz.ntmps53
      go_wp2_with (first
        | (go_at_call 51; refine HC.out.mono ?_; rintro e w1 ⟨rfl, h1, g1⟩; have H1 := Lib.hid h1; clear h1)
        | (go_at_call 52; refine (qfail_any 5 H1.out).mono ?_; rintro e w2 ⟨rfl, h2, g2⟩; have H2 := Lib.hid h2; clear h2))
      go_ret
      exact ⟨rfl, H2.out, g1.trans g2⟩
    · rw [if_neg (by omega)]
      obtain rfl : n = 0 := by omega
      go_enter Tryz.func53, Tryz.ntmps53
      go_wp2_with (first
        | (go_at_call 51; refine HC.out.mono ?_; rintro e w1 ⟨rfl, h1, g1⟩; have H1 := Lib.hid h1; clear h1)
        | (go_at_call 94; refine (qtake_any 0 H1.out hs ha3.out).mono ?_; rintro e w2 ⟨rfl, h2, g2⟩; have H2 := Lib.hid h2; clear h2))
      go_ret
      exact ⟨rfl, H2.out, g1.trans g2⟩
  · obtain ⟨m, rfl⟩ : ∃ m : Nat, most = m := ⟨most.toNat, by omega⟩
    rw [show max (m : Int) 0 = m by omega]
    by_cases hc : m < n
    · rw [if_pos (by omega)]
      go_enter Tryz.func53, Tryz.ntmps53
      go_wp2_with (first
        | (go_at_call 51; refine HC.out.mono ?_; rintro e w1 ⟨rfl, h1, g1⟩; have H1 := Lib.hid h1; clear h1)
        | (go_at_call 52; refine (qfail_any 5 H1.out).mono ?_; rintro e w2 ⟨rfl, h2, g2⟩; have H2 := Lib.hid h2; clear h2))
      go_ret
      exact ⟨rfl, H2.out, g1.trans g2⟩
    · rw [if_neg (by omega)]
      have hn : n ≤ 9223372036854775807 := by omega
      go_enter Tryz.func53, Tryz.ntmps53
      go_wp2_with (first
        | (go_at_call 51; refine HC.out.mono ?_; rintro e w1 ⟨rfl, h1, g1⟩; have H1 := Lib.hid h1; clear h1)
        | (go_at_call 94; refine (qtake_any n H1.out hs ha3.out).mono ?_; rintro e w2 ⟨rfl, h2, g2⟩; have H2 := Lib.hid h2; clear h2))
      go_ret
      exact ⟨rfl, H2.out, g1.trans g2⟩
end Go.Proofs.YtdkgieaanpfhcaaGreatDoor
