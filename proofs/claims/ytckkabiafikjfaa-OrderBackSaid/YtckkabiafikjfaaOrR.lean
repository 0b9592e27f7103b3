/-
  The Go text of a reader, walked: Num, Signed, Fail, End. Conditions: as each theorem states.
-/
import Derived.Test.YtckkabiafikjfaaOrV
import Derived.Deep.QuietTactic
import Derived.BigQuiet
import Derived.BigRegion
import Derived.StillTailTactics
import Derived.Deep.RegionHeld3
import Derived.Laws.Rows
import Derived.Maps.OwnSet
import Derived.Maps.AppendAt
import Derived.Lib.Strings
namespace Go.Proofs.Ytckkabiafikjfaa
open Go.RowKit
open Vi

def RdAt (t : TypeId) (w : World) (a : Nat) (s : ByteArray) (at_ : Nat) (err : Int) : Prop :=
  w.heap[a]? = some (.cells #[.string s, .int .i64 at_, .int .i64 err] t (0, 0))
theorem cell_in {w : World} {g : Nat} {c : Array Value} {t : TypeId} (h : w.heap[g]? = some (.cells c t (0, 0))) (j : Nat) (v : Value) (hj : c[j]? = some v) :
    w.cell? ⟨g, j, none⟩ = some v := by rw [cell_of_row w g j c t (0, 0) h]; exact hj
theorem free_in {w : World} {g : Nat} {c : Array Value} {t : TypeId} (h : w.heap[g]? = some (.cells c t (0, 0))) (j : Nat) : w.frozen? ⟨g, j, none⟩ = false := by
  simp [World.frozen?, h]
theorem heap_set {w : World} {g : Nat} {c : Array Value} {t : TypeId} {fr : Nat × Nat} (h : w.heap[g]? = some (.cells c t fr)) (j : Nat) (v : Value) :
    (w.setCell ⟨g, j, none⟩ v).heap[g]? = some (.cells (c.setIfInBounds j v) t fr) := by
  simp only [World.setCell, Array.getElem?_modify, if_true, h]
  rfl
theorem grown_set (w : World) (g j : Nat) (v : Value) : w.grownBy (w.setCell ⟨g, j, none⟩ v) (some g) :=
  ⟨rfl, rfl, rfl, by simp [World.setCell], fun k _ hk => Below.heap_setCell w ⟨g, j, none⟩ v k (fun e => hk (by rw [e]))⟩
theorem grown_drewN (w : World) (n : Nat) (row : Option Nat) : w.grownBy (w.drewN n) row := ⟨rfl, rfl, rfl, Nat.le_refl _, fun _ _ _ => rfl⟩
theorem grown_below {w w' : World} (h : Below w.heap.size w w') (row : Option Nat) : w.grownBy w' row := ⟨h.os, h.tape, h.output, h.size, fun i hi _ => h.block i hi⟩
section
variable {t : TypeId} {w : World} {a : Nat} {s : ByteArray} {at_ : Nat} {err : Int}
theorem rd0 (h : RdAt t w a s at_ err) : w.cell? ⟨a, 0, none⟩ = some (.string s) := cell_in h 0 _ rfl
theorem rd1 (h : RdAt t w a s at_ err) : w.cell? ⟨a, 1, none⟩ = some (.int .i64 at_) := cell_in h 1 _ rfl
theorem rd2 (h : RdAt t w a s at_ err) : w.cell? ⟨a, 2, none⟩ = some (.int .i64 err) := cell_in h 2 _ rfl
theorem rd_lt (h : RdAt t w a s at_ err) : a < w.heap.size := (Array.getElem?_eq_some_iff.1 h).1
theorem rd_drewN (h : RdAt t w a s at_ err) (n : Nat) : RdAt t (w.drewN n) a s at_ err := h
theorem rd_kept {w' : World} {row : Option Nat} (h : RdAt t w a s at_ err) (hg : w.grownBy w' row) (hne : some a ≠ row) : RdAt t w' a s at_ err := by
  unfold RdAt; rw [hg.block a (rd_lt h) hne]; exact h
end
theorem over_any (s : ByteArray) (w : World) :
    Calls Try.prog 15 #[.string s] w fun e w' => e = .returned (.pointer (some ⟨w.heap.size, 0, none⟩)) ∧ RdAt 55 w' w.heap.size s 0 0 ∧ Below w.heap.size w w' := by
  go_enter Try.func15, Try.ntmps15
  go_wp2
  go_ret
  exact ⟨rfl, heap_alloc_new _ _, (Below.refl _ _).alloc (Nat.le_refl _) _⟩
theorem err_any {w : World} {a : Nat} {s : ByteArray} {at_ : Nat} {err : Int} (h : RdAt 55 w a s at_ err) :
    Calls Try.prog 27 #[.pointer (some ⟨a, 0, none⟩)] w fun e w' => e = .returned (.int .i64 err) ∧ w = w' := by
  have c2 := rd2 h
  go_enter Try.func27, Try.ntmps27
  go_wp2
  go_ret
  exact ⟨rfl, rfl⟩
theorem left_any {w : World} {a : Nat} {s : ByteArray} {at_ : Nat} {err : Int} (h : RdAt 55 w a s at_ err) (hs : s.size ≤ 1000000) (ha : at_ ≤ s.size) :
    Calls Try.prog 30 #[.pointer (some ⟨a, 0, none⟩)] w fun e w' => e = .returned (.int .i64 ((s.size : Int) - at_)) ∧ ∃ k, w' = w.drewN k := by
  have c0 := rd0 h
  have c1 := rd1 h
  go_enter Try.func30, Try.ntmps30
  go_wp2
  go_quiet (fail)
  go_wp2
  go_ret
  exact ⟨rfl, _, rfl⟩
def NbJ (s : ByteArray) (w : World) (a' : Act) (w' : World) : Prop :=
  w = w' ∧ ∃ (i n : Nat) (u7 u8 u9 u10 u11 u12 u13 u14 u15 u16 u17 u18 u19 u20 u21 u22 u23 u24 u25 u26 u27 u28 u29 u30 u31 u32 : Value),
    a' = { tmps := #[.string s, undef, .int .u64 0, .int .i64 0, .int .i64 0, .int .u64 n, .int .i64 i, u7, u8, u9, u10, u11, u12, u13, u14, u15, u16, u17, u18, u19, u20, u21, u22, u23, u24, u25, u26, u27, u28, u29, u30, u31, u32, undef, undef, undef, undef, undef, undef, undef, undef], defers := [] } ∧
    1 ≤ i ∧ i ≤ 9 ∧ i ≤ s.size ∧ n < 128 ^ i ∧ rgo (s.data.toList.drop i) i n = rnum s.data.toList
def nbMu (s : ByteArray) (a' : Act) : Nat := s.size - (intOf (a'.tmps.getD 6 undef)).toNat
def rd3 (r : Nat × Nat × Nat) : Value := .tuple #[.int .u64 r.1, .int .i64 r.2.1, .int .i64 r.2.2]
theorem pow_two7 (i : Nat) : (2 : Int) ^ (7 * i) = ((128 ^ i : Nat) : Int) := by
  rw [Int.natCast_pow, Int.pow_mul]; rfl
theorem and127_8 (c : UInt8) : bits .and .u8 (c.toNat : Int) 127 = ((c.toNat % 128 : Nat) : Int) := by
  have h := u8_and_nat c.toNat 127 c.toNat_lt (by decide)
  rw [show c.toNat &&& 127 = c.toNat % 128 from Nat.and_two_pow_sub_one_eq_mod c.toNat 7] at h
  exact h
theorem or_add {n i m : Nat} (h : n < 128 ^ i) : n ||| m * 128 ^ i = n + 128 ^ i * m := by
  have e : (128 : Nat) ^ i = 2 ^ (7 * i) := by rw [Nat.pow_mul]
  rw [e] at h ⊢
  have := Nat.two_pow_add_eq_or_of_lt h m
  rw [Nat.mul_comm m, Nat.or_comm, ← this, Nat.add_comm]
theorem acc_any {n i : Nat} {c : UInt8} (hn : Hid (n < 128 ^ i)) (hi : i ≤ 9) (h9 : i = 9 → c.toNat ≤ 1) :
    bits .or .u64 (n : Int) (IntKind.u64.wrap (IntKind.u64.wrap (bits .and .u8 (c.toNat : Int) 127) * 2 ^ (7 * i))) = ((n + 128 ^ i * (c.toNat % 128) : Nat) : Int) := by
  rw [and127_8, pow_two7]
  have hp := pow_le hi
  have hc := c.toNat_lt
  have hle : (c.toNat % 128) * 128 ^ i < 18446744073709551616 := by
    by_cases e : i = 9
    · subst e
      have h1 := h9 rfl
      have : c.toNat % 128 ≤ 1 := by omega
      have := Nat.mul_le_mul_right (128 ^ 9) this
      rw [pow9] at *; omega
    · have := pow_le8 (i := i) (by omega)
      have h2 : c.toNat % 128 ≤ 127 := by omega
      have := Nat.mul_le_mul h2 this
      omega
  have e1 : IntKind.u64.wrap ((c.toNat % 128 : Nat) : Int) = ((c.toNat % 128 : Nat) : Int) := by rw [IntKind.wrap_u64]; omega
  have e2 : IntKind.u64.wrap (((c.toNat % 128 : Nat) : Int) * ((128 ^ i : Nat) : Int)) = (((c.toNat % 128) * 128 ^ i : Nat) : Int) := by
    rw [IntKind.wrap_u64, ← Int.natCast_mul]; omega
  rw [e1, e2, u64_or_nat _ _ (by have := hn.out; omega) hle, or_add hn.out]
theorem acc_none {c : UInt8} : bits .or .u64 0 (IntKind.u64.wrap (IntKind.u64.wrap (bits .and .u8 (c.toNat : Int) 127))) = ((0 + 128 ^ 0 * (c.toNat % 128) : Nat) : Int) := by
  have := acc_any (n := 0) (i := 0) (c := c) (by show (0:Nat) < 128 ^ 0; decide) (by omega) (by omega)
  simpa using this
theorem drop_at (s : ByteArray) (i : Nat) (h : i < s.size) : s.data.toList.drop i = s[i] :: s.data.toList.drop (i + 1) := by
  rw [List.drop_eq_getElem_cons (by simpa using h)]; rfl
theorem drop_all (s : ByteArray) : s.data.toList.drop s.size = [] := List.drop_of_length_le (Nat.le_refl _)
theorem nbJ_next {s : ByteArray} {w : World} {i n : Nat} {x y : Int} (hi : i < 9) (h : i < s.size) (HN : Hid (n < 128 ^ i)) (HR : Hid (rgo (s.data.toList.drop i) i n = rnum s.data.toList)) (hc : 128 ≤ (s[i].toNat : Int))
    (hx : x = ((n + 128 ^ i * (s[i].toNat % 128) : Nat) : Int)) (hy : y = ((i + 1 : Nat) : Int)) (u7 u8 u9 u10 u11 u12 u13 u14 u15 u16 u17 u18 u19 u20 u21 u22 u23 u24 u25 u26 u27 u28 u29 u30 u31 u32 : Value) :
    NbJ s w { tmps := #[.string s, undef, .int .u64 0, .int .i64 0, .int .i64 0, .int .u64 x, .int .i64 y, u7, u8, u9, u10, u11, u12, u13, u14, u15, u16, u17, u18, u19, u20, u21, u22, u23, u24, u25, u26, u27, u28, u29, u30, u31, u32, undef, undef, undef, undef, undef, undef, undef, undef], defers := [] } w := by
  refine ⟨rfl, i + 1, n + 128 ^ i * (s[i].toNat % 128), u7, u8, u9, u10, u11, u12, u13, u14, u15, u16, u17, u18, u19, u20, u21, u22, u23, u24, u25, u26, u27, u28, u29, u30, u31, u32, by rw [hx, hy], by omega, by omega, by omega, ?_, ?_⟩
  · have hm : s[i].toNat % 128 ≤ 127 := by omega
    have := Nat.mul_le_mul_left (128 ^ i) hm
    have := HN.out
    rw [Nat.pow_succ]; omega
  · rw [← HR.out, drop_at s i h, rgo_more hi (by omega)]
theorem ret_three {l : List UInt8} {a b c : Nat} {x y z : Int} (h : rnum l = (a, b, c)) (hx : x = a) (hy : y = b) (hz : z = c) :
    Ending.returned (.tuple #[.int .u64 x, .int .i64 y, .int .i64 z]) = .returned (rd3 (rnum l)) := by rw [h, hx, hy, hz]; rfl
theorem rnum_at0 {s : ByteArray} (h : 0 < s.size) : rnum s.data.toList = rgo (s[0] :: s.data.toList.drop 1) 0 0 := by
  rw [← drop_at s 0 h, rnum_eq, List.drop_zero]
set_option maxRecDepth 100000 in
set_option maxHeartbeats 4000000 in
theorem number_any (s : ByteArray) (hs : s.size ≤ 1000000) (w : World) :
    Calls Try.prog 28 #[.string s] w fun e w' => e = .returned (rd3 (rnum s.data.toList)) ∧ w = w' := by
  go_enter Try.func28, Try.ntmps28
  go_wp2
  refine wp_scope_jumps 0 (NbJ s w) (fun a' _ => nbMu s a') rfl ?_ ?_
  · go_wp2
    go_step3
    by_cases h0 : s.size = 0
    · have h0' : ((0 : Int) == (s.size : Int)) = true := by simp [h0]
      have H0 := Lib.hid h0
      clear h0
      go_wp2
      simp only [Exit.jump]
      go_ret3
      exact ⟨ret_three (a := 0) (b := 0) (c := 3) (by rw [show s.data.toList = [] from List.eq_nil_of_length_eq_zero H0.out, rnum_eq, rgo_nil]) rfl rfl rfl, rfl⟩
    · have hp : 0 < s.size := by omega
      go_wp2
      · have hc : 128 ≤ (s[0].toNat : Int) := by assumption
        go_step3
        refine ⟨rfl, nbJ_next (i := 0) (n := 0) (by omega) hp (by show (0:Nat) < 128 ^ 0; decide) (by show _ = _; rw [rnum_eq, List.drop_zero]) hc acc_none rfl _ _ _ _ _ _ _ _ _ _ _ _ _ _ _ _ _ _ _ _ _ _ _ _ _ _⟩
      · have hz : s[0].toNat = 0 := by assumption
        simp only [Exit.jump]
        go_ret3
        exact ⟨ret_three (a := 0) (b := 1) (c := 0) (by rw [rnum_at0 hp, rgo_last (by omega) (by omega) (by omega), hz]) (by decide +kernel) rfl rfl, rfl⟩
      · have hc : (s[0].toNat : Int) < 128 := by assumption
        simp only [Exit.jump]
        go_ret3
        exact ⟨ret_three (a := s[0].toNat) (b := 1) (c := 0) (by rw [rnum_at0 hp, rgo_last (by omega) (by omega) (by omega)]; simp) (by rw [acc_none]; simp; omega) rfl rfl, rfl⟩
  · rintro a' w' ⟨rfl, i, n, u7, u8, u9, u10, u11, u12, u13, u14, u15, u16, u17, u18, u19, u20, u21, u22, u23, u24, u25, u26, u27, u28, u29, u30, u31, u32, rfl, hi1, hi9, his, hn, hr⟩
    have HR := Lib.hid hr
    have HN := Lib.hid hn
    clear hr hn
    by_cases h0 : i = s.size
    · have h0' : ((i : Int) == (s.size : Int)) = true := by simp [h0]
      have H0 := Lib.hid h0
      clear h0
      go_wp2
      simp only [Exit.jump]
      go_ret3
      exact ⟨ret_three (a := 0) (b := 0) (c := 3) (by rw [← HR.out, H0.out, drop_all, rgo_nil]) rfl rfl rfl, rfl⟩
    · have h0' : i < s.size := by omega
      by_cases h9 : i = 9
      · have h9' : ((i : Int) == 9) = true := by simp; omega
        have H9 := Lib.hid h9
        clear h9
        by_cases hc : 1 < s[i].toNat
        · go_wp2
          simp only [Exit.jump]
          go_ret3
          exact ⟨ret_three (a := 0) (b := 0) (c := 8) (by rw [← HR.out, drop_at s i h0', rgo_range H9.out hc]) rfl rfl rfl, rfl⟩
        · have hc1 : s[i].toNat ≤ 1 := by omega
          go_wp2
          · have hz : s[i].toNat = 0 := by assumption
            simp only [Exit.jump]
            go_ret3
            exact ⟨ret_three (a := 0) (b := 0) (c := 4) (by rw [← HR.out, drop_at s i h0', rgo_form (by omega) hz]) rfl rfl rfl, rfl⟩
          · have hz : ¬ s[i].toNat = 0 := by assumption
            simp only [Exit.jump]
            go_ret3
            exact ⟨ret_three (a := n + 128 ^ i * s[i].toNat) (b := i + 1) (c := 0) (by rw [← HR.out, drop_at s i h0', rgo_last (.inr hc1) (by omega) (.inl hz)]) (by rw [acc_any HN (by omega) (fun _ => hc1), Nat.mod_eq_of_lt (by omega)]) rfl rfl, rfl⟩
      · go_wp2
        · have hc : 128 ≤ (s[i].toNat : Int) := by assumption
          go_step3
          refine ⟨rfl, nbJ_next (by omega) h0' HN HR hc (acc_any HN (by omega) (by omega)) rfl _ _ _ _ _ _ _ _ _ _ _ _ _ _ _ _ _ _ _ _ _ _ _ _ _ _, ?_⟩
          simp [nbMu, intOf]; omega
        · have hz : s[i].toNat = 0 := by assumption
          simp only [Exit.jump]
          go_ret3
          exact ⟨ret_three (a := 0) (b := 0) (c := 4) (by rw [← HR.out, drop_at s i h0', rgo_form (by omega) hz]) rfl rfl rfl, rfl⟩
        · have hc : (s[i].toNat : Int) < 128 := by assumption
          have hz : ¬ s[i].toNat = 0 := by assumption
          simp only [Exit.jump]
          go_ret3
          exact ⟨ret_three (a := n + 128 ^ i * s[i].toNat) (b := i + 1) (c := 0) (by rw [← HR.out, drop_at s i h0', rgo_last (by omega) (by omega) (by omega)]) (by rw [acc_any HN (by omega) (by omega), Nat.mod_eq_of_lt (by omega)]) rfl rfl, rfl⟩
theorem bs_list (l : List UInt8) : (bs l).toList = l := by rw [Lib.toList_data]; rfl
theorem quiet_eq {P : Program} {f : FuncId} {args : Array Value} {w : World} {n : Nat} {v : Value}
    (h : Calls P f args (w.drewN n) fun e w' => e = .returned v ∧ w.drewN n = w') : Calls P f args (w.drewN n) fun e w'' => e = .returned v ∧ ∃ m, w'' = w.drewN m :=
  h.mono fun _ _ ⟨he, hm⟩ => ⟨he, n, hm.symm⟩
theorem number_sub {s : ByteArray} {at_ x y z : Nat} (hs : s.size ≤ 1000000) (hr : Hid (rnum (s.data.toList.drop at_) = (x, y, z))) (w : World) :
    Calls Try.prog 28 #[.string (s.extract at_ s.size)] w fun e w' => e = .returned (.tuple #[.int .u64 x, .int .i64 y, .int .i64 z]) ∧ w = w' := by
  have e : (s.extract at_ s.size).data.toList = s.data.toList.drop at_ := by
    rw [Lib.extract_data, List.take_of_length_le (by rw [List.length_drop]; exact Nat.le_refl _)]
  have hz : (s.extract at_ s.size).size ≤ 1000000 := by
    have h1 : (s.extract at_ s.size).data.toList.length ≤ s.data.toList.length := by rw [e, List.length_drop]; omega
    exact Nat.le_trans h1 hs
  refine (number_any _ hz w).mono fun e' w' ⟨h1, h2⟩ => ⟨?_, h2⟩
  rw [h1, e, hr.out]; rfl
theorem rnum_bad {w : World} {a : Nat} {s : ByteArray} {at_ : Nat} {err : Int} (h : RdAt 55 w a s at_ err) (he : (err == 0) = false) :
    Calls Try.prog 16 #[.pointer (some ⟨a, 0, none⟩)] w fun e w' => e = .returned (.int .u64 0) ∧ w = w' := by
  have he' : (err != 0) = true := by simp [bne, he]
  go_enter Try.func16, Try.ntmps16
  go_wp2_with (go_at_call 27; refine (err_any h).mono ?_; rintro e w' ⟨rfl, rfl⟩)
  go_ret
  exact ⟨rfl, rfl⟩
theorem rnum_ok {w : World} {a : Nat} {s : ByteArray} {at_ : Nat} (h : RdAt 55 w a s at_ 0) (hs : s.size ≤ 1000000) (ha : at_ ≤ s.size) :
    Calls Try.prog 16 #[.pointer (some ⟨a, 0, none⟩)] w fun e w' => e = .returned (.int .u64 (rnum (s.data.toList.drop at_)).1) ∧
      RdAt 55 w' a s (at_ + (rnum (s.data.toList.drop at_)).2.1) (rnum (s.data.toList.drop at_)).2.2 ∧ w.grownBy w' (some a) := by
  have hy : (rnum (s.data.toList.drop at_)).2.1 ≤ s.size := by
    have := rnum_len (s.data.toList.drop at_); simp at this; omega
  obtain ⟨x, y, z, hr⟩ : ∃ x y z, rnum (s.data.toList.drop at_) = (x, y, z) := ⟨_, _, _, rfl⟩
  rw [hr] at hy ⊢
  have HR := Lib.hid hr
  clear hr
  have hy' : y ≤ 1000000 := by simp at hy; omega
  clear hy
  have c0 := rd0 h
  have c1 := rd1 h
  have c2 := rd2 h
  have f1 := free_in h 1
  have f2 := free_in h 2
  have H := Lib.hid h
  clear h
  go_enter Try.func16, Try.ntmps16
  go_wp2_with (go_at_call 27; refine (err_any H.out).mono ?_; rintro e w' ⟨rfl, rfl⟩)
  go_quiet ((go_at_call 28; exact quiet_eq (number_sub hs HR _)))
  go_wp2
  go_ret
  refine ⟨rfl, ?_, ((grown_drewN w nq _).trans (grown_set _ _ _ _)).trans (grown_set _ _ _ _)⟩
  exact heap_set (heap_set (rd_drewN H.out nq) 1 _) 2 _
def dNum (l : List UInt8) (at_ : Nat) (err : Int) : Nat × Nat × Int :=
  if err = 0 then ((rnum (l.drop at_)).1, at_ + (rnum (l.drop at_)).2.1, ((rnum (l.drop at_)).2.2 : Int)) else (0, at_, err)
theorem dNum_at {l : List UInt8} {at_ : Nat} {err : Int} (h : at_ ≤ l.length) : (dNum l at_ err).2.1 ≤ l.length := by
  unfold dNum; split
  · have := rnum_len (l.drop at_); simp at this; simp; omega
  · exact h
theorem dNum_lt (l : List UInt8) (at_ : Nat) (err : Int) : (dNum l at_ err).1 < 18446744073709551616 := by
  unfold dNum; split
  · exact rnum_lt _
  · show (0 : Nat) < _; decide
theorem dNum_ok (l : List UInt8) (at_ : Nat) : dNum l at_ 0 = ((rnum (l.drop at_)).1, at_ + (rnum (l.drop at_)).2.1, ((rnum (l.drop at_)).2.2 : Int)) := if_pos rfl
theorem dNum_bad {l : List UInt8} {at_ : Nat} {err : Int} (h : err ≠ 0) : dNum l at_ err = (0, at_, err) := if_neg h
def RdPost (t : TypeId) (w : World) (a : Nat) (s : ByteArray) (v : Value) (p : Nat × Int) (e : Ending) (w' : World) : Prop :=
  e = .returned v ∧ RdAt t w' a s p.1 p.2 ∧ w.grownBy w' (some a)
theorem size_len (s : ByteArray) : s.data.toList.length = s.size := rfl
theorem grown_refl (w : World) (row : Option Nat) : w.grownBy w row := ⟨rfl, rfl, rfl, Nat.le_refl _, fun _ _ _ => rfl⟩
theorem rnum_any {w : World} {a : Nat} {s : ByteArray} {at_ : Nat} {err : Int} (h : RdAt 55 w a s at_ err) (hs : s.size ≤ 1000000) (ha : at_ ≤ s.size) :
    Calls Try.prog 16 #[.pointer (some ⟨a, 0, none⟩)] w (RdPost 55 w a s (.int .u64 (dNum s.data.toList at_ err).1) (dNum s.data.toList at_ err).2) := by
  by_cases he : err = 0
  · subst he
    rw [dNum_ok]
    exact rnum_ok h hs ha
  · rw [dNum_bad he]
    exact (rnum_bad h (by simpa using he)).mono fun e w' ⟨h1, h2⟩ => by subst h2; exact ⟨h1, h, grown_refl _ _⟩
theorem left_held {w : World} {a : Nat} {s : ByteArray} {at_ : Nat} {err : Int} (h : Hid (RdAt 55 w a s at_ err)) (hs : s.size ≤ 1000000) (ha : at_ ≤ s.size) :
    Calls Try.prog 30 #[.pointer (some ⟨a, 0, none⟩)] w fun e w' => e = .returned (.int .i64 ((s.size : Int) - at_)) ∧ ∃ k, w' = w.drewN k := left_any h.out hs ha
def dFail (at_ : Nat) (err e : Int) : Nat × Int := if err = 0 then (at_, e) else (at_, err)
theorem fail_any {w : World} {a : Nat} {s : ByteArray} {at_ : Nat} {err : Int} (e : Int) (h : RdAt 55 w a s at_ err) :
    Calls Try.prog 29 #[.pointer (some ⟨a, 0, none⟩), .int .i64 e] w (RdPost 55 w a s (.tuple #[]) (dFail at_ err e)) := by
  have H := Lib.hid h
  by_cases he : err = 0
  · subst he
    rw [show dFail at_ 0 e = (at_, e) from if_pos rfl]
    have c2 := rd2 h
    have f2 := free_in h 2
    clear h
    go_enter Try.func29, Try.ntmps29
    go_wp2_with (go_at_call 27; refine (err_any H.out).mono ?_; rintro e w' ⟨rfl, rfl⟩)
    go_end0
    exact ⟨rfl, heap_set H.out 2 _, grown_set _ _ _ _⟩
  · rw [show dFail at_ err e = (at_, err) from if_neg he]
    have he' : (err == 0) = false := by simpa using he
    clear h he
    go_enter Try.func29, Try.ntmps29
    go_wp2_with (go_at_call 27; refine (err_any H.out).mono ?_; rintro e w' ⟨rfl, rfl⟩)
    go_end0
    exact ⟨rfl, H.out, grown_refl _ _⟩
def dEnd (n at_ : Nat) (err : Int) : Int := if err = 0 then (if at_ < n then 4 else 0) else err
theorem end_any {w : World} {a : Nat} {s : ByteArray} {at_ : Nat} {err : Int} (h : RdAt 55 w a s at_ err) (hs : s.size ≤ 1000000) (ha : at_ ≤ s.size) :
    Calls Try.prog 19 #[.pointer (some ⟨a, 0, none⟩)] w fun e' w' => e' = .returned (.int .i64 (dEnd s.size at_ err)) ∧ ∃ k, w' = w.drewN k := by
  have H := Lib.hid h
  clear h
  by_cases he : err = 0
  · subst he
    by_cases hl : at_ < s.size
    · rw [show dEnd s.size at_ 0 = 4 by unfold dEnd; rw [if_pos rfl, if_pos hl]]
      go_enter Try.func19, Try.ntmps19
      go_wp2_with (first
        | (go_at_call 27; refine (err_any H.out).mono ?_; rintro e w' ⟨rfl, rfl⟩)
        | (go_at_call 30; refine (left_held H hs ha).mono ?_; rintro e w' ⟨rfl, k, rfl⟩))
      go_ret
      exact ⟨rfl, _, rfl⟩
    · rw [show dEnd s.size at_ 0 = 0 by unfold dEnd; rw [if_pos rfl, if_neg hl]]
      have hl' : s.size = at_ := by omega
      have h3 : (s.size : Int) - at_ ≤ 0 := by omega
      clear hl hl'
      go_enter Try.func19, Try.ntmps19
      go_wp2_with (first
        | (go_at_call 27; refine (err_any H.out).mono ?_; rintro e w' ⟨rfl, rfl⟩)
        | (go_at_call 30; refine (left_held H hs ha).mono ?_; rintro e w' ⟨rfl, k, rfl⟩))
      go_ret
      exact ⟨rfl, _, rfl⟩
  · rw [show dEnd s.size at_ err = err from if_neg he]
    have he' : (err == 0) = false := by simpa using he
    have he2 : (err != 0) = true := by simpa using he
    clear he
    go_enter Try.func19, Try.ntmps19
    go_wp2_with (go_at_call 27; refine (err_any H.out).mono ?_; rintro e w' ⟨rfl, rfl⟩)
    go_ret
    exact ⟨rfl, 0, rfl⟩
theorem dFail_at (at_ : Nat) (err e : Int) : (dFail at_ err e).1 = at_ := by unfold dFail; split <;> rfl
theorem dFail_ok (at_ : Nat) (e : Int) : dFail at_ 0 e = (at_, e) := if_pos rfl
theorem dFail_bad {at_ : Nat} {err e : Int} (h : err ≠ 0) : dFail at_ err e = (at_, err) := if_neg h
theorem dEnd_form {n at_ : Nat} (h : at_ < n) : dEnd n at_ 0 = 4 := by unfold dEnd; rw [if_pos rfl, if_pos h]
theorem dEnd_ok {n at_ : Nat} (h : ¬ at_ < n) : dEnd n at_ 0 = 0 := by unfold dEnd; rw [if_pos rfl, if_neg h]
theorem dEnd_bad {n at_ : Nat} {err : Int} (h : err ≠ 0) : dEnd n at_ err = err := if_neg h
theorem wrap64_in {x : Int} (h1 : -9223372036854775808 ≤ x) (h2 : x ≤ 9223372036854775807) : wrap64 x = x := by
  unfold wrap64; omega
theorem and1_64 {n : Nat} (h : n < 18446744073709551616) : bits .and .u64 (n : Int) 1 = ((n % 2 : Nat) : Int) := by
  have := u64_and_nat n 1 h (by decide)
  rw [show n &&& 1 = n % 2 from Nat.and_two_pow_sub_one_eq_mod n 1] at this
  exact this
theorem ofInt_nat64 (a : Nat) (ha : a < 9223372036854775808) : (BitVec.ofInt 64 (a : Int)).toNat = a := by
  rw [BitVec.ofInt_natCast, BitVec.toNat_ofNat]; exact Nat.mod_eq_of_lt (by omega)
theorem xor_i64_zero {a : Nat} (ha : a < 9223372036854775808) : bits .xor .i64 (a : Int) 0 = (a : Int) := by
  show IntKind.i64.wrap ((BitVec.ofInt 64 (a : Int) ^^^ BitVec.ofInt 64 0).toNat : Int) = _
  rw [BitVec.toNat_xor, ofInt_nat64 a ha, show (BitVec.ofInt 64 0).toNat = 0 by decide, Nat.xor_zero, IntKind.wrap_i64]
  omega
theorem xor_i64_ones {a : Nat} (ha : a < 9223372036854775808) : bits .xor .i64 (a : Int) (-1) = -(a : Int) - 1 := by
  show IntKind.i64.wrap ((BitVec.ofInt 64 (a : Int) ^^^ BitVec.ofInt 64 (-1)).toNat : Int) = _
  rw [BitVec.toNat_xor, ofInt_nat64 a ha, show (BitVec.ofInt 64 (-1)).toNat = 18446744073709551615 by decide, xor_ones (by omega), IntKind.wrap_i64]
  omega
theorem zag_bits {n : Nat} (h : n < 18446744073709551616) : bits .xor .i64 ((n : Int) / 2) (wrap64 (-wrap64 (bits .and .u64 (n : Int) 1))) = zag n := by
  rw [and1_64 h, show (n : Int) / 2 = ((n / 2 : Nat) : Int) by omega]
  unfold zag
  rcases Nat.mod_two_eq_zero_or_one n with h2 | h2
  · rw [h2, if_neg (by omega), show wrap64 (-wrap64 ((0 : Nat) : Int)) = 0 by rw [wrap64_in (x := ((0 : Nat) : Int)) (by decide) (by decide)]; exact wrap64_in (by decide) (by decide), xor_i64_zero (by omega)]
  · rw [h2, if_pos rfl, show wrap64 (-wrap64 ((1 : Nat) : Int)) = -1 by rw [wrap64_in (x := ((1 : Nat) : Int)) (by decide) (by decide)]; exact wrap64_in (by decide) (by decide), xor_i64_ones (by omega)]
theorem rsigned_any {w : World} {a : Nat} {s : ByteArray} {at_ : Nat} {err : Int} (h : RdAt 55 w a s at_ err) (hs : s.size ≤ 1000000) (ha : at_ ≤ s.size) :
    Calls Try.prog 18 #[.pointer (some ⟨a, 0, none⟩)] w (RdPost 55 w a s (.int .i64 (zag (dNum s.data.toList at_ err).1)) (dNum s.data.toList at_ err).2) := by
  have hl := dNum_lt s.data.toList at_ err
  have HC := rnum_any h hs ha
  generalize dNum s.data.toList at_ err = r at hl HC ⊢
  obtain ⟨n, at2, err2⟩ := r
  have hl : n < 18446744073709551616 := hl
  have HC := Lib.hid HC
  clear h
  go_enter Try.func18, Try.ntmps18
  go_wp2_with (first
    | (go_at_call 16; refine HC.out.mono ?_; rintro e w1 ⟨rfl, h1, g1⟩; have H1 := Lib.hid h1; clear h1))
  go_ret
  exact ⟨ret_int (zag_bits hl), H1.out, g1⟩

end Go.Proofs.Ytckkabiafikjfaa
