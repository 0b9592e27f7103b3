/-
  The Go text of a reader, walked: Num, Take, Text, Wide, Fail, End. Conditions: as each theorem states.
-/
import Derived.Test.YtdkgieaanpfhcaaGreatDoorBaV
import Derived.Deep.QuietTactic
import Derived.BigQuiet
import Derived.BigRegion
import Derived.StillTailTactics
import Derived.Deep.RegionHeld3
import Derived.Laws.Rows
import Derived.Maps.OwnSet
import Derived.Maps.AppendAt
import Derived.Lib.Strings
namespace Go.Proofs.YtdkgieaanpfhcaaGreatDoor
open Go.RowKit
open Vi

def RdAt (t : TypeId) (w : World) (a : Nat) (s : ByteArray) (at_ : Nat) (err : Int) : Prop :=
  w.heap[a]? = some (.cells #[.string s, .int .i64 at_, .int .i64 err] t (0, 0))
theorem cell_in {w : World} {g : Nat} {c : Array Value} {t : TypeId} (h : w.heap[g]? = some (.cells c t (0, 0))) (j : Nat) (v : Value) (hj : c[j]? = some v) :
    w.cell? ⟨g, j, none⟩ = some v := by rw [cell_of_row w g j c t (0, 0) h]; exact hj
theorem free_in {w : World} {g : Nat} {c : Array Value} {t : TypeId} (h : w.heap[g]? = some (.cells c t (0, 0))) (j : Nat) : w.frozen? ⟨g, j, none⟩ = false := by
  simp [World.frozen?, h]
theorem heap_set {w : World} {g : Nat} {c : Array Value} {t : TypeId} {fr : Nat × Nat} (h : w.heap[g]? = some (.cells c t fr)) (j : Nat) (v : Value) :
    (w.setCell ⟨g, j, none⟩ v).heap[g]? = some (.cells (c.setIfInBounds j v) t fr) := by
  simp only [World.setCell, Array.getElem?_modify, if_true, h]
  rfl
theorem grown_set (w : World) (g j : Nat) (v : Value) : w.grownBy (w.setCell ⟨g, j, none⟩ v) (some g) :=
  ⟨rfl, rfl, rfl, by simp [World.setCell], fun k _ hk => Below.heap_setCell w ⟨g, j, none⟩ v k (fun e => hk (by rw [e]))⟩
theorem grown_drewN (w : World) (n : Nat) (row : Option Nat) : w.grownBy (w.drewN n) row := ⟨rfl, rfl, rfl, Nat.le_refl _, fun _ _ _ => rfl⟩
theorem grown_below {w w' : World} (h : Below w.heap.size w w') (row : Option Nat) : w.grownBy w' row := ⟨h.os, h.tape, h.output, h.size, fun i hi _ => h.block i hi⟩
section
variable {t : TypeId} {w : World} {a : Nat} {s : ByteArray} {at_ : Nat} {err : Int}
theorem rd0 (h : RdAt t w a s at_ err) : w.cell? ⟨a, 0, none⟩ = some (.string s) := cell_in h 0 _ rfl
theorem rd1 (h : RdAt t w a s at_ err) : w.cell? ⟨a, 1, none⟩ = some (.int .i64 at_) := cell_in h 1 _ rfl
theorem rd2 (h : RdAt t w a s at_ err) : w.cell? ⟨a, 2, none⟩ = some (.int .i64 err) := cell_in h 2 _ rfl
theorem rd_lt (h : RdAt t w a s at_ err) : a < w.heap.size := (Array.getElem?_eq_some_iff.1 h).1
theorem rd_drewN (h : RdAt t w a s at_ err) (n : Nat) : RdAt t (w.drewN n) a s at_ err := h
theorem rd_kept {w' : World} {row : Option Nat} (h : RdAt t w a s at_ err) (hg : w.grownBy w' row) (hne : some a ≠ row) : RdAt t w' a s at_ err := by
  unfold RdAt; rw [hg.block a (rd_lt h) hne]; exact h
end
theorem over_any (s : ByteArray) (w : World) :
    Calls Tryz.prog 58 #[.string s] w fun e w' => e = .returned (.pointer (some ⟨w.heap.size, 0, none⟩)) ∧ RdAt 149 w' w.heap.size s 0 0 ∧ Below w.heap.size w w' := by
  go_enter Tryz.func58, Tryz.ntmps58
  go_wp2
  go_ret
  exact ⟨rfl, heap_alloc_new _ _, (Below.refl _ _).alloc (Nat.le_refl _) _⟩
theorem err_nil (w : World) : Calls Tryz.prog 62 #[.pointer none] w fun e w' => e = .returned (.int .i64 1) ∧ w = w' := by
  go_enter Tryz.func62, Tryz.ntmps62
  go_wp2
  go_ret
  exact ⟨rfl, rfl⟩
theorem err_any {w : World} {a : Nat} {s : ByteArray} {at_ : Nat} {err : Int} (h : RdAt 149 w a s at_ err) :
    Calls Tryz.prog 62 #[.pointer (some ⟨a, 0, none⟩)] w fun e w' => e = .returned (.int .i64 err) ∧ w = w' := by
  have c2 := rd2 h
  go_enter Tryz.func62, Tryz.ntmps62
  go_wp2
  go_ret
  exact ⟨rfl, rfl⟩
theorem left_nil (w : World) : Calls Tryz.prog 102 #[.pointer none] w fun e w' => e = .returned (.int .i64 0) ∧ w = w' := by
  go_enter Tryz.func102, Tryz.ntmps102
  go_wp2
  go_ret
  exact ⟨rfl, rfl⟩
theorem left_any {w : World} {a : Nat} {s : ByteArray} {at_ : Nat} {err : Int} (h : RdAt 149 w a s at_ err) (hs : s.size ≤ 1000000) (ha : at_ ≤ s.size) :
    Calls Tryz.prog 102 #[.pointer (some ⟨a, 0, none⟩)] w fun e w' => e = .returned (.int .i64 ((s.size : Int) - at_)) ∧ ∃ k, w' = w.drewN k := by
  have c0 := rd0 h
  have c1 := rd1 h
  go_enter Tryz.func102, Tryz.ntmps102
  go_wp2
  go_quiet (fail)
  go_wp2
  go_ret
  exact ⟨rfl, _, rfl⟩
def NbJ (s : ByteArray) (w : World) (a' : Act) (w' : World) : Prop :=
  w = w' ∧ ∃ (i n : Nat) (u7 u8 u9 u10 u11 u12 u13 u14 u15 u16 u17 u18 u19 u20 u21 u22 u23 u24 u25 u26 u27 u28 u29 u30 u31 u32 : Value),
    a' = { tmps := #[.string s, undef, .int .u64 0, .int .i64 0, .int .i64 0, .int .u64 n, .int .i64 i, u7, u8, u9, u10, u11, u12, u13, u14, u15, u16, u17, u18, u19, u20, u21, u22, u23, u24, u25, u26, u27, u28, u29, u30, u31, u32, undef, undef, undef, undef, undef, undef, undef, undef], defers := [] } ∧
    1 ≤ i ∧ i ≤ 9 ∧ i ≤ s.size ∧ n < 128 ^ i ∧ rgo (s.data.toList.drop i) i n = rnum s.data.toList
def nbMu (s : ByteArray) (a' : Act) : Nat := s.size - (intOf (a'.tmps.getD 6 undef)).toNat
def rd3 (r : Nat × Nat × Nat) : Value := .tuple #[.int .u64 r.1, .int .i64 r.2.1, .int .i64 r.2.2]
theorem pow_two7 (i : Nat) : (2 : Int) ^ (7 * i) = ((128 ^ i : Nat) : Int) := by
  rw [Int.natCast_pow, Int.pow_mul]; rfl
theorem and127_8 (c : UInt8) : bits .and .u8 (c.toNat : Int) 127 = ((c.toNat % 128 : Nat) : Int) := by
  have h := u8_and_nat c.toNat 127 c.toNat_lt (by decide)
  rw [show c.toNat &&& 127 = c.toNat % 128 from Nat.and_two_pow_sub_one_eq_mod c.toNat 7] at h
  exact h
theorem or_add {n i m : Nat} (h : n < 128 ^ i) : n ||| m * 128 ^ i = n + 128 ^ i * m := by
  have e : (128 : Nat) ^ i = 2 ^ (7 * i) := by rw [Nat.pow_mul]
  rw [e] at h ⊢
  have := Nat.two_pow_add_eq_or_of_lt h m
  rw [Nat.mul_comm m, Nat.or_comm, ← this, Nat.add_comm]
theorem acc_any {n i : Nat} {c : UInt8} (hn : Hid (n < 128 ^ i)) (hi : i ≤ 9) (h9 : i = 9 → c.toNat ≤ 1) :
    bits .or .u64 (n : Int) (IntKind.u64.wrap (IntKind.u64.wrap (bits .and .u8 (c.toNat : Int) 127) * 2 ^ (7 * i))) = ((n + 128 ^ i * (c.toNat % 128) : Nat) : Int) := by
  rw [and127_8, pow_two7]
  have hp := pow_le hi
  have hc := c.toNat_lt
  have hle : (c.toNat % 128) * 128 ^ i < 18446744073709551616 := by
    by_cases e : i = 9
    · subst e
      have h1 := h9 rfl
      have : c.toNat % 128 ≤ 1 := by omega
      have := Nat.mul_le_mul_right (128 ^ 9) this
      rw [pow9] at *; omega
    · have := pow_le8 (i := i) (by omega)
      have h2 : c.toNat % 128 ≤ 127 := by omega
      have := Nat.mul_le_mul h2 this
      omega
  have e1 : IntKind.u64.wrap ((c.toNat % 128 : Nat) : Int) = ((c.toNat % 128 : Nat) : Int) := by rw [IntKind.wrap_u64]; omega
  have e2 : IntKind.u64.wrap (((c.toNat % 128 : Nat) : Int) * ((128 ^ i : Nat) : Int)) = (((c.toNat % 128) * 128 ^ i : Nat) : Int) := by
    rw [IntKind.wrap_u64, ← Int.natCast_mul]; omega
  rw [e1, e2, u64_or_nat _ _ (by have := hn.out; omega) hle, or_add hn.out]
theorem acc_none {c : UInt8} : bits .or .u64 0 (IntKind.u64.wrap (IntKind.u64.wrap (bits .and .u8 (c.toNat : Int) 127))) = ((0 + 128 ^ 0 * (c.toNat % 128) : Nat) : Int) := by
  have := acc_any (n := 0) (i := 0) (c := c) (by show (0:Nat) < 128 ^ 0; decide) (by omega) (by omega)
  simpa using this
theorem drop_at (s : ByteArray) (i : Nat) (h : i < s.size) : s.data.toList.drop i = s[i] :: s.data.toList.drop (i + 1) := by
  rw [List.drop_eq_getElem_cons (by simpa using h)]; rfl
theorem drop_all (s : ByteArray) : s.data.toList.drop s.size = [] := List.drop_of_length_le (Nat.le_refl _)
theorem nbJ_next {s : ByteArray} {w : World} {i n : Nat} {x y : Int} (hi : i < 9) (h : i < s.size) (HN : Hid (n < 128 ^ i)) (HR : Hid (rgo (s.data.toList.drop i) i n = rnum s.data.toList)) (hc : 128 ≤ (s[i].toNat : Int))
    (hx : x = ((n + 128 ^ i * (s[i].toNat % 128) : Nat) : Int)) (hy : y = ((i + 1 : Nat) : Int)) (u7 u8 u9 u10 u11 u12 u13 u14 u15 u16 u17 u18 u19 u20 u21 u22 u23 u24 u25 u26 u27 u28 u29 u30 u31 u32 : Value) :
    NbJ s w { tmps := #[.string s, undef, .int .u64 0, .int .i64 0, .int .i64 0, .int .u64 x, .int .i64 y, u7, u8, u9, u10, u11, u12, u13, u14, u15, u16, u17, u18, u19, u20, u21, u22, u23, u24, u25, u26, u27, u28, u29, u30, u31, u32, undef, undef, undef, undef, undef, undef, undef, undef], defers := [] } w := by
  refine ⟨rfl, i + 1, n + 128 ^ i * (s[i].toNat % 128), u7, u8, u9, u10, u11, u12, u13, u14, u15, u16, u17, u18, u19, u20, u21, u22, u23, u24, u25, u26, u27, u28, u29, u30, u31, u32, by rw [hx, hy], by omega, by omega, by omega, ?_, ?_⟩
  · have hm : s[i].toNat % 128 ≤ 127 := by omega
    have := Nat.mul_le_mul_left (128 ^ i) hm
    have := HN.out
    rw [Nat.pow_succ]; omega
  · rw [← HR.out, drop_at s i h, rgo_more hi (by omega)]
theorem ret_three {l : List UInt8} {a b c : Nat} {x y z : Int} (h : rnum l = (a, b, c)) (hx : x = a) (hy : y = b) (hz : z = c) :
    Ending.returned (.tuple #[.int .u64 x, .int .i64 y, .int .i64 z]) = .returned (rd3 (rnum l)) := by rw [h, hx, hy, hz]; rfl
theorem rnum_at0 {s : ByteArray} (h : 0 < s.size) : rnum s.data.toList = rgo (s[0] :: s.data.toList.drop 1) 0 0 := by
  rw [← drop_at s 0 h, rnum_eq, List.drop_zero]
set_option maxRecDepth 100000 in
set_option maxHeartbeats 4000000 in
theorem number_any (s : ByteArray) (hs : s.size ≤ 1000000) (w : World) :
    Calls Tryz.prog 98 #[.string s] w fun e w' => e = .returned (rd3 (rnum s.data.toList)) ∧ w = w' := by
  go_enter Tryz.func98, Tryz.ntmps98
  go_wp2
  refine wp_scope_jumps 0 (NbJ s w) (fun a' _ => nbMu s a') rfl ?_ ?_
  · go_wp2
    go_step3
    by_cases h0 : s.size = 0
    · have h0' : ((0 : Int) == (s.size : Int)) = true := by simp [h0]
      have H0 := Lib.hid h0
      clear h0
      go_wp2
      simp only [Exit.jump]
      go_ret3
      exact ⟨ret_three (a := 0) (b := 0) (c := 3) (by rw [show s.data.toList = [] from List.eq_nil_of_length_eq_zero H0.out, rnum_eq, rgo_nil]) rfl rfl rfl, rfl⟩
    · have hp : 0 < s.size := by omega
      go_wp2
      · have hc : 128 ≤ (s[0].toNat : Int) := by assumption
        go_step3
        refine ⟨rfl, nbJ_next (i := 0) (n := 0) (by omega) hp (by show (0:Nat) < 128 ^ 0; decide) (by show _ = _; rw [rnum_eq, List.drop_zero]) hc acc_none rfl _ _ _ _ _ _ _ _ _ _ _ _ _ _ _ _ _ _ _ _ _ _ _ _ _ _⟩
      · have hz : s[0].toNat = 0 := by assumption
        simp only [Exit.jump]
        go_ret3
        exact ⟨ret_three (a := 0) (b := 1) (c := 0) (by rw [rnum_at0 hp, rgo_last (by omega) (by omega) (by omega), hz]) (by decide +kernel) rfl rfl, rfl⟩
      · have hc : (s[0].toNat : Int) < 128 := by assumption
        simp only [Exit.jump]
        go_ret3
        exact ⟨ret_three (a := s[0].toNat) (b := 1) (c := 0) (by rw [rnum_at0 hp, rgo_last (by omega) (by omega) (by omega)]; simp) (by rw [acc_none]; simp; omega) rfl rfl, rfl⟩
  · rintro a' w' ⟨rfl, i, n, u7, u8, u9, u10, u11, u12, u13, u14, u15, u16, u17, u18, u19, u20, u21, u22, u23, u24, u25, u26, u27, u28, u29, u30, u31, u32, rfl, hi1, hi9, his, hn, hr⟩
    have HR := Lib.hid hr
    have HN := Lib.hid hn
    clear hr hn
    by_cases h0 : i = s.size
    · have h0' : ((i : Int) == (s.size : Int)) = true := by simp [h0]
      have H0 := Lib.hid h0
      clear h0
      go_wp2
      simp only [Exit.jump]
      go_ret3
      exact ⟨ret_three (a := 0) (b := 0) (c := 3) (by rw [← HR.out, H0.out, drop_all, rgo_nil]) rfl rfl rfl, rfl⟩
    · have h0' : i < s.size := by omega
      by_cases h9 : i = 9
      · have h9' : ((i : Int) == 9) = true := by simp; omega
        have H9 := Lib.hid h9
        clear h9
        by_cases hc : 1 < s[i].toNat
        · go_wp2
          simp only [Exit.jump]
          go_ret3
          exact ⟨ret_three (a := 0) (b := 0) (c := 8) (by rw [← HR.out, drop_at s i h0', rgo_range H9.out hc]) rfl rfl rfl, rfl⟩
        · have hc1 : s[i].toNat ≤ 1 := by omega
          go_wp2
          · have hz : s[i].toNat = 0 := by assumption
            simp only [Exit.jump]
            go_ret3
            exact ⟨ret_three (a := 0) (b := 0) (c := 4) (by rw [← HR.out, drop_at s i h0', rgo_form (by omega) hz]) rfl rfl rfl, rfl⟩
          · have hz : ¬ s[i].toNat = 0 := by assumption
            simp only [Exit.jump]
            go_ret3
            exact ⟨ret_three (a := n + 128 ^ i * s[i].toNat) (b := i + 1) (c := 0) (by rw [← HR.out, drop_at s i h0', rgo_last (.inr hc1) (by omega) (.inl hz)]) (by rw [acc_any HN (by omega) (fun _ => hc1), Nat.mod_eq_of_lt (by omega)]) rfl rfl, rfl⟩
      · go_wp2
        · have hc : 128 ≤ (s[i].toNat : Int) := by assumption
          go_step3
          refine ⟨rfl, nbJ_next (by omega) h0' HN HR hc (acc_any HN (by omega) (by omega)) rfl _ _ _ _ _ _ _ _ _ _ _ _ _ _ _ _ _ _ _ _ _ _ _ _ _ _, ?_⟩
          simp [nbMu, intOf]; omega
        · have hz : s[i].toNat = 0 := by assumption
          simp only [Exit.jump]
          go_ret3
          exact ⟨ret_three (a := 0) (b := 0) (c := 4) (by rw [← HR.out, drop_at s i h0', rgo_form (by omega) hz]) rfl rfl rfl, rfl⟩
        · have hc : (s[i].toNat : Int) < 128 := by assumption
          have hz : ¬ s[i].toNat = 0 := by assumption
          simp only [Exit.jump]
          go_ret3
          exact ⟨ret_three (a := n + 128 ^ i * s[i].toNat) (b := i + 1) (c := 0) (by rw [← HR.out, drop_at s i h0', rgo_last (by omega) (by omega) (by omega)]) (by rw [acc_any HN (by omega) (by omega), Nat.mod_eq_of_lt (by omega)]) rfl rfl, rfl⟩
theorem bs_list (l : List UInt8) : (bs l).toList = l := by rw [Lib.toList_data]; rfl
theorem quiet_eq {P : Program} {f : FuncId} {args : Array Value} {w : World} {n : Nat} {v : Value}
    (h : Calls P f args (w.drewN n) fun e w' => e = .returned v ∧ w.drewN n = w') : Calls P f args (w.drewN n) fun e w'' => e = .returned v ∧ ∃ m, w'' = w.drewN m :=
  h.mono fun _ _ ⟨he, hm⟩ => ⟨he, n, hm.symm⟩
theorem number_sub {s : ByteArray} {at_ x y z : Nat} (hs : s.size ≤ 1000000) (hr : Hid (rnum (s.data.toList.drop at_) = (x, y, z))) (w : World) :
    Calls Tryz.prog 98 #[.string (s.extract at_ s.size)] w fun e w' => e = .returned (.tuple #[.int .u64 x, .int .i64 y, .int .i64 z]) ∧ w = w' := by
  have e : (s.extract at_ s.size).data.toList = s.data.toList.drop at_ := by
    rw [Lib.extract_data, List.take_of_length_le (by rw [List.length_drop]; exact Nat.le_refl _)]
  have hz : (s.extract at_ s.size).size ≤ 1000000 := by
    have h1 : (s.extract at_ s.size).data.toList.length ≤ s.data.toList.length := by rw [e, List.length_drop]; omega
    exact Nat.le_trans h1 hs
  refine (number_any _ hz w).mono fun e' w' ⟨h1, h2⟩ => ⟨?_, h2⟩
  rw [h1, e, hr.out]; rfl
theorem rnum_nil (w : World) : Calls Tryz.prog 60 #[.pointer none] w fun e w' => e = .returned (.int .u64 0) ∧ w = w' := by
  go_enter Tryz.func60, Tryz.ntmps60
  go_wp2_with (go_at_call 62; refine (err_nil _).mono ?_; rintro e w' ⟨rfl, rfl⟩)
  go_ret
  exact ⟨rfl, rfl⟩
theorem rnum_bad {w : World} {a : Nat} {s : ByteArray} {at_ : Nat} {err : Int} (h : RdAt 149 w a s at_ err) (he : (err == 0) = false) :
    Calls Tryz.prog 60 #[.pointer (some ⟨a, 0, none⟩)] w fun e w' => e = .returned (.int .u64 0) ∧ w = w' := by
  have he' : (err != 0) = true := by simp [bne, he]
  go_enter Tryz.func60, Tryz.ntmps60
  go_wp2_with (go_at_call 62; refine (err_any h).mono ?_; rintro e w' ⟨rfl, rfl⟩)
  go_ret
  exact ⟨rfl, rfl⟩
theorem rnum_ok {w : World} {a : Nat} {s : ByteArray} {at_ : Nat} (h : RdAt 149 w a s at_ 0) (hs : s.size ≤ 1000000) (ha : at_ ≤ s.size) :
    Calls Tryz.prog 60 #[.pointer (some ⟨a, 0, none⟩)] w fun e w' => e = .returned (.int .u64 (rnum (s.data.toList.drop at_)).1) ∧
      RdAt 149 w' a s (at_ + (rnum (s.data.toList.drop at_)).2.1) (rnum (s.data.toList.drop at_)).2.2 ∧ w.grownBy w' (some a) := by
  have hy : (rnum (s.data.toList.drop at_)).2.1 ≤ s.size := by
    have := rnum_len (s.data.toList.drop at_); simp at this; omega
  obtain ⟨x, y, z, hr⟩ : ∃ x y z, rnum (s.data.toList.drop at_) = (x, y, z) := ⟨_, _, _, rfl⟩
  rw [hr] at hy ⊢
  have HR := Lib.hid hr
  clear hr
  have hy' : y ≤ 1000000 := by simp at hy; omega
  clear hy
  have c0 := rd0 h
  have c1 := rd1 h
  have c2 := rd2 h
  have f1 := free_in h 1
  have f2 := free_in h 2
  have H := Lib.hid h
  clear h
  go_enter Tryz.func60, Tryz.ntmps60
  go_wp2_with (go_at_call 62; refine (err_any H.out).mono ?_; rintro e w' ⟨rfl, rfl⟩)
  go_quiet ((go_at_call 98; exact quiet_eq (number_sub hs HR _)))
  go_wp2
  go_ret
  refine ⟨rfl, ?_, ((grown_drewN w nq _).trans (grown_set _ _ _ _)).trans (grown_set _ _ _ _)⟩
  exact heap_set (heap_set (rd_drewN H.out nq) 1 _) 2 _
/-! what a reader answers, and where it is behind it -/
def dNum (l : List UInt8) (at_ : Nat) (err : Int) : Nat × Nat × Int :=
  if err = 0 then ((rnum (l.drop at_)).1, at_ + (rnum (l.drop at_)).2.1, ((rnum (l.drop at_)).2.2 : Int)) else (0, at_, err)
def dTake (l : List UInt8) (at_ : Nat) (err n : Int) : List UInt8 × Nat × Int :=
  if err = 0 then (if n < 0 ∨ (l.length : Int) - at_ < n then ([], at_, 3) else ((l.drop at_).take n.toNat, at_ + n.toNat, 0)) else ([], at_, err)
theorem dNum_at {l : List UInt8} {at_ : Nat} {err : Int} (h : at_ ≤ l.length) : (dNum l at_ err).2.1 ≤ l.length := by
  unfold dNum; split
  · have := rnum_len (l.drop at_); simp at this; simp; omega
  · exact h
theorem dNum_lt (l : List UInt8) (at_ : Nat) (err : Int) : (dNum l at_ err).1 < 18446744073709551616 := by
  unfold dNum; split
  · exact rnum_lt _
  · show (0 : Nat) < _; decide
theorem dTake_at {l : List UInt8} {at_ : Nat} {err n : Int} (h : at_ ≤ l.length) : (dTake l at_ err n).2.1 ≤ l.length := by
  unfold dTake; split
  · split
    · exact h
    · simp; omega
  · exact h
theorem dTake_len {l : List UInt8} {at_ : Nat} {err n : Int} : (dTake l at_ err n).1.length ≤ l.length := by
  unfold dTake; split
  · split
    · simp
    · simp; omega
  · simp
theorem dNum_ok (l : List UInt8) (at_ : Nat) : dNum l at_ 0 = ((rnum (l.drop at_)).1, at_ + (rnum (l.drop at_)).2.1, ((rnum (l.drop at_)).2.2 : Int)) := if_pos rfl
theorem dNum_bad {l : List UInt8} {at_ : Nat} {err : Int} (h : err ≠ 0) : dNum l at_ err = (0, at_, err) := if_neg h
theorem dTake_bad {l : List UInt8} {at_ : Nat} {err n : Int} (h : err ≠ 0) : dTake l at_ err n = ([], at_, err) := if_neg h
theorem dTake_short {l : List UInt8} {at_ : Nat} {n : Int} (h : n < 0 ∨ (l.length : Int) - at_ < n) : dTake l at_ 0 n = ([], at_, 3) := by unfold dTake; rw [if_pos rfl, if_pos h]
theorem dTake_ok {l : List UInt8} {at_ : Nat} {n : Int} (h : 0 ≤ n) (h2 : n ≤ (l.length : Int) - at_) : dTake l at_ 0 n = ((l.drop at_).take n.toNat, at_ + n.toNat, 0) := by unfold dTake; rw [if_pos rfl, if_neg (by omega)]
attribute [irreducible] dNum dTake
def RdPost (t : TypeId) (w : World) (a : Nat) (s : ByteArray) (v : Value) (p : Nat × Int) (e : Ending) (w' : World) : Prop :=
  e = .returned v ∧ RdAt t w' a s p.1 p.2 ∧ w.grownBy w' (some a)
theorem size_len (s : ByteArray) : s.data.toList.length = s.size := rfl
theorem grown_refl (w : World) (row : Option Nat) : w.grownBy w row := ⟨rfl, rfl, rfl, Nat.le_refl _, fun _ _ _ => rfl⟩
theorem rnum_any {w : World} {a : Nat} {s : ByteArray} {at_ : Nat} {err : Int} (h : RdAt 149 w a s at_ err) (hs : s.size ≤ 1000000) (ha : at_ ≤ s.size) :
    Calls Tryz.prog 60 #[.pointer (some ⟨a, 0, none⟩)] w (RdPost 149 w a s (.int .u64 (dNum s.data.toList at_ err).1) (dNum s.data.toList at_ err).2) := by
  by_cases he : err = 0
  · subst he
    rw [dNum_ok]
    exact rnum_ok h hs ha
  · rw [dNum_bad he]
    exact (rnum_bad h (by simpa using he)).mono fun e w' ⟨h1, h2⟩ => by subst h2; exact ⟨h1, h, grown_refl _ _⟩
theorem cut_nil (n : Int) (w : World) : Calls Tryz.prog 97 #[.pointer none, .int .i64 n] w fun e w' => e = .returned (.string (bs [])) ∧ w = w' := by
  go_enter Tryz.func97, Tryz.ntmps97
  go_wp2_with (go_at_call 62; refine (err_nil _).mono ?_; rintro e w' ⟨rfl, rfl⟩)
  go_ret
  exact ⟨rfl, rfl⟩
theorem cut_bad {w : World} {a : Nat} {s : ByteArray} {at_ : Nat} {err : Int} (n : Int) (h : RdAt 149 w a s at_ err) (he : (err == 0) = false) :
    Calls Tryz.prog 97 #[.pointer (some ⟨a, 0, none⟩), .int .i64 n] w fun e w' => e = .returned (.string (bs [])) ∧ w = w' := by
  have he' : (err != 0) = true := by simp [bne, he]
  go_enter Tryz.func97, Tryz.ntmps97
  go_wp2_with (go_at_call 62; refine (err_any h).mono ?_; rintro e w' ⟨rfl, rfl⟩)
  go_ret
  exact ⟨rfl, rfl⟩
theorem left_held {w : World} {a : Nat} {s : ByteArray} {at_ : Nat} {err : Int} (h : Hid (RdAt 149 w a s at_ err)) (hs : s.size ≤ 1000000) (ha : at_ ≤ s.size) :
    Calls Tryz.prog 102 #[.pointer (some ⟨a, 0, none⟩)] w fun e w' => e = .returned (.int .i64 ((s.size : Int) - at_)) ∧ ∃ k, w' = w.drewN k := left_any h.out hs ha
theorem cut_low {w : World} {a : Nat} {s : ByteArray} {at_ : Nat} (n : Int) (h : RdAt 149 w a s at_ 0) (hn : n < 0) :
    Calls Tryz.prog 97 #[.pointer (some ⟨a, 0, none⟩), .int .i64 n] w (RdPost 149 w a s (.string (bs [])) (at_, 3)) := by
  have c2 := rd2 h
  have f2 := free_in h 2
  have H := Lib.hid h
  clear h
  go_enter Tryz.func97, Tryz.ntmps97
  go_wp2_with (go_at_call 62; refine (err_any H.out).mono ?_; rintro e w' ⟨rfl, rfl⟩)
  go_ret
  exact ⟨rfl, heap_set H.out 2 _, grown_set _ _ _ _⟩
theorem cut_far {w : World} {a : Nat} {s : ByteArray} {at_ : Nat} (n : Int) (h : RdAt 149 w a s at_ 0) (hs : s.size ≤ 1000000) (ha : at_ ≤ s.size) (hn : (s.size : Int) - at_ < n) :
    Calls Tryz.prog 97 #[.pointer (some ⟨a, 0, none⟩), .int .i64 n] w (RdPost 149 w a s (.string (bs [])) (at_, 3)) := by
  have c2 := rd2 h
  have f2 := free_in h 2
  have H := Lib.hid h
  clear h
  have h0 : ¬ n < 0 := by omega
  go_enter Tryz.func97, Tryz.ntmps97
  go_wp2_with (first
    | (go_at_call 62; refine (err_any H.out).mono ?_; rintro e w' ⟨rfl, rfl⟩)
    | (go_at_call 102; refine (left_held H hs ha).mono ?_; rintro e w' ⟨rfl, k, rfl⟩))
  go_ret
  exact ⟨rfl, heap_set (rd_drewN H.out k) 2 _, (grown_drewN w k _).trans (grown_set _ _ _ _)⟩
theorem cut_ok {w : World} {a : Nat} {s : ByteArray} {at_ : Nat} (n : Nat) (h : RdAt 149 w a s at_ 0) (hs : s.size ≤ 1000000) (ha : at_ ≤ s.size) (hn : n ≤ s.size - at_) :
    Calls Tryz.prog 97 #[.pointer (some ⟨a, 0, none⟩), .int .i64 n] w (RdPost 149 w a s (.string (bs ((s.data.toList.drop at_).take n))) (at_ + n, 0)) := by
  have c0 := rd0 h
  have c1 := rd1 h
  have f1 := free_in h 1
  have H := Lib.hid h
  clear h
  have h0 : (n : Int) ≤ (s.size : Int) - at_ := by omega
  go_enter Tryz.func97, Tryz.ntmps97
  go_wp2_with (first
    | (go_at_call 62; refine (err_any H.out).mono ?_; rintro e w' ⟨rfl, rfl⟩)
    | (go_at_call 102; refine (left_held H hs ha).mono ?_; rintro e w' ⟨rfl, k, rfl⟩))
  have g1 : (at_ : Int) + n ≤ s.size := by omega
  have g2 : (0 : Int) ≤ (at_ : Int) + n := by omega
  have g3 : (at_ : Int) ≤ (at_ : Int) + n := by omega
  have g5 : at_ + n ≤ s.size := by omega
  have g4 : ((at_ : Int) + n).toNat = at_ + n := by omega
  go_quiet (fail)
  go_wp2
  go_ret
  have e : s.extract at_ (at_ + n) = bs ((s.data.toList.drop at_).take n) := by rw [Lib.extract_eq, Nat.add_sub_cancel_left]; rfl
  refine ⟨by rw [← e]; rfl, ?_, ((grown_drewN w k _).trans (grown_set _ _ _ _)).trans (grown_drewN _ nq _)⟩
  exact heap_set (rd_drewN H.out k) 1 _
theorem cut_any {w : World} {a : Nat} {s : ByteArray} {at_ : Nat} {err : Int} (n : Int) (h : RdAt 149 w a s at_ err) (hs : s.size ≤ 1000000) (ha : at_ ≤ s.size) :
    Calls Tryz.prog 97 #[.pointer (some ⟨a, 0, none⟩), .int .i64 n] w (RdPost 149 w a s (.string (bs (dTake s.data.toList at_ err n).1)) (dTake s.data.toList at_ err n).2) := by
  by_cases he : err = 0
  · subst he
    by_cases h0 : n < 0
    · rw [dTake_short (.inl h0)]; exact cut_low n h h0
    · by_cases h1 : (s.size : Int) - at_ < n
      · rw [dTake_short (.inr h1)]; exact cut_far n h hs ha h1
      · rw [dTake_ok (by omega) (by rw [size_len]; omega)]
        have := cut_ok n.toNat h hs ha (by omega)
        rw [show ((n.toNat : Nat) : Int) = n by omega] at this
        exact this
  · rw [dTake_bad he]
    exact (cut_bad n h (by simpa using he)).mono fun e w' ⟨h1, h2⟩ => by subst h2; exact ⟨h1, h, grown_refl _ _⟩
theorem clone_any (s : ByteArray) (w : World) (hs : Hid (s.size ≤ 281474976710656)) :
    Calls Tryz.prog 46 #[.string s] w fun e w' => e = .returned (.string s) ∧ Below w.heap.size w w' := by
  go_enter Tryz.func46, Tryz.ntmps46
  go_wp2_with (go_at_call 88; with_reducible refine (Tryz.stringslite_Clone s _ hs.out).mono ?_; rintro e w1 ⟨rfl, hb⟩)
  go_ret
  exact ⟨rfl, hb⟩
theorem take_nil (n : Int) (w : World) : Calls Tryz.prog 99 #[.pointer none, .int .i64 n] w fun e w' => e = .returned (.string (bs [])) ∧ Below w.heap.size w w' := by
  have hz : Hid ((bs []).size ≤ 281474976710656) := by show (bs []).size ≤ _; rw [bs_size]; decide
  go_enter Tryz.func99, Tryz.ntmps99
  go_wp2_with (first
    | (go_at_call 97; refine (cut_nil n _).mono ?_; rintro e w' ⟨rfl, rfl⟩)
    | (go_at_call 46; with_reducible refine (clone_any _ _ hz).mono ?_; rintro e w' ⟨rfl, hb⟩))
  go_ret
  exact ⟨rfl, hb⟩
theorem take_any {w : World} {a : Nat} {s : ByteArray} {at_ : Nat} {err : Int} (n : Int) (h : RdAt 149 w a s at_ err) (hs : s.size ≤ 1000000) (ha : at_ ≤ s.size) :
    Calls Tryz.prog 99 #[.pointer (some ⟨a, 0, none⟩), .int .i64 n] w (RdPost 149 w a s (.string (bs (dTake s.data.toList at_ err n).1)) (dTake s.data.toList at_ err n).2) := by
  have hl : Hid ((bs (dTake s.data.toList at_ err n).1).size ≤ 281474976710656) := by
    show (bs _).size ≤ _
    have := dTake_len (l := s.data.toList) (at_ := at_) (err := err) (n := n)
    rw [bs_size]; rw [size_len] at this; omega
  have HC := cut_any n h hs ha
  generalize dTake s.data.toList at_ err n = r at hl HC ⊢
  obtain ⟨l2, at2, err2⟩ := r
  have HC := Lib.hid HC
  clear h
  go_enter Tryz.func99, Tryz.ntmps99
  go_wp2_with (first
    | (go_at_call 97; refine HC.out.mono ?_; rintro e w1 ⟨rfl, h1, g1⟩; have H1 := Lib.hid h1; clear h1)
    | (go_at_call 46; with_reducible refine (clone_any _ _ hl).mono ?_; rintro e w2 ⟨rfl, hb⟩))
  go_ret
  exact ⟨rfl, by unfold RdAt; rw [hb.block a (rd_lt H1.out)]; exact H1.out, g1.trans (grown_below hb _)⟩
theorem fail_nil (e : Int) (w : World) : Calls Tryz.prog 61 #[.pointer none, .int .i64 e] w fun e' w' => e' = .returned (.tuple #[]) ∧ w = w' := by
  go_enter Tryz.func61, Tryz.ntmps61
  go_wp2_with (go_at_call 62; refine (err_nil _).mono ?_; rintro e w' ⟨rfl, rfl⟩)
  go_end0
  exact ⟨rfl, rfl⟩
def dFail (at_ : Nat) (err e : Int) : Nat × Int := if err = 0 then (at_, e) else (at_, err)
theorem fail_any {w : World} {a : Nat} {s : ByteArray} {at_ : Nat} {err : Int} (e : Int) (h : RdAt 149 w a s at_ err) :
    Calls Tryz.prog 61 #[.pointer (some ⟨a, 0, none⟩), .int .i64 e] w (RdPost 149 w a s (.tuple #[]) (dFail at_ err e)) := by
  have H := Lib.hid h
  by_cases he : err = 0
  · subst he
    rw [show dFail at_ 0 e = (at_, e) from if_pos rfl]
    have c2 := rd2 h
    have f2 := free_in h 2
    clear h
    go_enter Tryz.func61, Tryz.ntmps61
    go_wp2_with (go_at_call 62; refine (err_any H.out).mono ?_; rintro e w' ⟨rfl, rfl⟩)
    go_end0
    exact ⟨rfl, heap_set H.out 2 _, grown_set _ _ _ _⟩
  · rw [show dFail at_ err e = (at_, err) from if_neg he]
    have he' : (err == 0) = false := by simpa using he
    clear h he
    go_enter Tryz.func61, Tryz.ntmps61
    go_wp2_with (go_at_call 62; refine (err_any H.out).mono ?_; rintro e w' ⟨rfl, rfl⟩)
    go_end0
    exact ⟨rfl, H.out, grown_refl _ _⟩
def dEnd (n at_ : Nat) (err : Int) : Int := if err = 0 then (if at_ < n then 4 else 0) else err
theorem end_nil (w : World) : Calls Tryz.prog 64 #[.pointer none] w fun e' w' => e' = .returned (.int .i64 1) ∧ w = w' := by
  go_enter Tryz.func64, Tryz.ntmps64
  go_wp2_with (go_at_call 62; refine (err_nil _).mono ?_; rintro e w' ⟨rfl, rfl⟩)
  go_ret
  exact ⟨rfl, rfl⟩
theorem end_any {w : World} {a : Nat} {s : ByteArray} {at_ : Nat} {err : Int} (h : RdAt 149 w a s at_ err) (hs : s.size ≤ 1000000) (ha : at_ ≤ s.size) :
    Calls Tryz.prog 64 #[.pointer (some ⟨a, 0, none⟩)] w fun e' w' => e' = .returned (.int .i64 (dEnd s.size at_ err)) ∧ ∃ k, w' = w.drewN k := by
  have H := Lib.hid h
  clear h
  by_cases he : err = 0
  · subst he
    by_cases hl : at_ < s.size
    · rw [show dEnd s.size at_ 0 = 4 by unfold dEnd; rw [if_pos rfl, if_pos hl]]
      go_enter Tryz.func64, Tryz.ntmps64
      go_wp2_with (first
        | (go_at_call 62; refine (err_any H.out).mono ?_; rintro e w' ⟨rfl, rfl⟩)
        | (go_at_call 102; refine (left_held H hs ha).mono ?_; rintro e w' ⟨rfl, k, rfl⟩))
      go_ret
      exact ⟨rfl, _, rfl⟩
    · rw [show dEnd s.size at_ 0 = 0 by unfold dEnd; rw [if_pos rfl, if_neg hl]]
      have hl' : s.size = at_ := by omega
      have h3 : (s.size : Int) - at_ ≤ 0 := by omega
      clear hl hl'
      go_enter Tryz.func64, Tryz.ntmps64
      go_wp2_with (first
        | (go_at_call 62; refine (err_any H.out).mono ?_; rintro e w' ⟨rfl, rfl⟩)
        | (go_at_call 102; refine (left_held H hs ha).mono ?_; rintro e w' ⟨rfl, k, rfl⟩))
      go_ret
      exact ⟨rfl, _, rfl⟩
  · rw [show dEnd s.size at_ err = err from if_neg he]
    have he' : (err == 0) = false := by simpa using he
    have he2 : (err != 0) = true := by simpa using he
    clear he
    go_enter Tryz.func64, Tryz.ntmps64
    go_wp2_with (go_at_call 62; refine (err_any H.out).mono ?_; rintro e w' ⟨rfl, rfl⟩)
    go_ret
    exact ⟨rfl, 0, rfl⟩
theorem dFail_at (at_ : Nat) (err e : Int) : (dFail at_ err e).1 = at_ := by unfold dFail; split <;> rfl
theorem dFail_ok (at_ : Nat) (e : Int) : dFail at_ 0 e = (at_, e) := if_pos rfl
theorem dFail_bad {at_ : Nat} {err e : Int} (h : err ≠ 0) : dFail at_ err e = (at_, err) := if_neg h
theorem dEnd_form {n at_ : Nat} (h : at_ < n) : dEnd n at_ 0 = 4 := by unfold dEnd; rw [if_pos rfl, if_pos h]
theorem dEnd_ok {n at_ : Nat} (h : ¬ at_ < n) : dEnd n at_ 0 = 0 := by unfold dEnd; rw [if_pos rfl, if_neg h]
theorem dEnd_bad {n at_ : Nat} {err : Int} (h : err ≠ 0) : dEnd n at_ err = err := if_neg h
attribute [irreducible] dFail dEnd
def GaJ (s : ByteArray) (w : World) (a' : Act) (w' : World) : Prop :=
  w = w' ∧ ∃ (i n : Nat) (u5 u6 u7 u8 u9 u10 u11 u12 u13 u14 u15 u16 u17 u18 : Value), a' = { tmps := #[.string s, undef, .int .u64 0, .int .u64 n, .int .i64 i, u5, u6, u7, u8, u9, u10, u11, u12, u13, u14, u15, u16, u17, u18], defers := [] } ∧ i < s.size ∧ n = big (s.data.toList.drop i)
def gaMu (a' : Act) : Nat := (intOf (a'.tmps.getD 4 undef)).toNat
theorem or_low {n : Nat} (c : UInt8) (h : n < 72057594037927936) : bits .or .u64 ((n : Int) * 256) (c.toNat : Int) = ((c.toNat + 256 * n : Nat) : Int) := by
  have hc := c.toNat_lt
  have e : (n : Int) * 256 = ((2 ^ 8 * n : Nat) : Int) := by omega
  rw [e, u64_or_nat _ _ (by omega) (by omega), ← Nat.two_pow_add_eq_or_of_lt hc]
  omega
theorem wrap_byte (c : UInt8) : IntKind.u64.wrap (c.toNat : Int) = (c.toNat : Int) := by
  have hc := c.toNat_lt
  rw [IntKind.wrap_u64]; omega
theorem or_low8 {n : Nat} (c : UInt8) (h : n < 72057594037927936) : bits .or .u64 ((n : Int) * 256) (IntKind.u64.wrap (c.toNat : Int)) = ((c.toNat + 256 * n : Nat) : Int) := by rw [wrap_byte, or_low c h]
theorem or_low0 (c : UInt8) : bits .or .u64 0 (IntKind.u64.wrap (c.toNat : Int)) = ((c.toNat + 256 * 0 : Nat) : Int) := or_low8 (n := 0) c (by decide)
theorem big_drop_lt {s : ByteArray} {i : Nat} (hs : s.size ≤ 8) (hi : 1 ≤ i) : big (s.data.toList.drop i) < 72057594037927936 := by
  have h := big_lt (s.data.toList.drop i)
  have hl : (s.data.toList.drop i).length ≤ 7 := by rw [List.length_drop, size_len]; omega
  exact Nat.lt_of_lt_of_le h (Nat.le_trans (Nat.pow_le_pow_right (by decide) hl) (by decide))
theorem big_drop (s : ByteArray) (i : Nat) (h : i < s.size) : big (s.data.toList.drop i) = s[i].toNat + 256 * big (s.data.toList.drop (i + 1)) := by
  rw [drop_at s i h, big_cons]
theorem gaJ_next {s : ByteArray} {w : World} {i n : Nat} {x y : Int} (h : i < s.size) (hn : Hid (n = big (s.data.toList.drop (i + 1)))) (hx : x = ((s[i].toNat + 256 * n : Nat) : Int)) (hy : y = (i : Int)) (u5 u6 u7 u8 u9 u10 u11 u12 u13 u14 u15 u16 u17 u18 : Value) :
    GaJ s w { tmps := #[.string s, undef, .int .u64 0, .int .u64 x, .int .i64 y, u5, u6, u7, u8, u9, u10, u11, u12, u13, u14, u15, u16, u17, u18], defers := [] } w := by
  refine ⟨rfl, i, s[i].toNat + 256 * n, u5, u6, u7, u8, u9, u10, u11, u12, u13, u14, u15, u16, u17, u18, by rw [hx, hy], h, ?_⟩
  rw [big_drop s i h, ← hn.out]
set_option maxRecDepth 100000 in
set_option maxHeartbeats 1000000 in
theorem gather_any (s : ByteArray) (hs : s.size ≤ 8) (w : World) :
    Calls Tryz.prog 96 #[.string s] w fun e w' => e = .returned (.int .u64 (big s.data.toList)) ∧ w = w' := by
  go_enter Tryz.func96, Tryz.ntmps96
  go_wp2
  refine wp_scope_jumps 0 (GaJ s w) (fun a' _ => gaMu a') rfl ?_ ?_
  · by_cases h0 : s.size = 0
    · have h0' : ((s.size : Int) == 0) = true := by simp [h0]
      have H0 := Lib.hid h0
      clear h0
      go_wp2
      go_step3
      go_wp2
      simp only [Exit.jump]
      go_ret
      exact ⟨ret_int (by rw [show s.data.toList = [] from List.eq_nil_of_length_eq_zero H0.out, big_nil]; rfl), rfl⟩
    · obtain ⟨j, hj⟩ : ∃ j, s.size = j + 1 := ⟨s.size - 1, by omega⟩
      have hj' : j < s.size := by omega
      have e : ((s.size : Int) - 1) = (j : Int) := by omega
      have HJ := Lib.hid hj
      clear hj
      go_wp2
      go_step3
      go_wp2
      go_step3
      refine ⟨rfl, gaJ_next (n := 0) hj' ?_ (or_low0 _) rfl _ _ _ _ _ _ _ _ _ _ _ _ _ _⟩
      show 0 = _
      rw [← HJ.out, drop_all, big_nil]
  · rintro a' w' ⟨rfl, i, n, u5, u6, u7, u8, u9, u10, u11, u12, u13, u14, u15, u16, u17, u18, rfl, hi, hn⟩
    have HN := Lib.hid hn
    clear hn
    by_cases h0 : i = 0
    · subst h0
      go_wp2
      simp only [Exit.jump]
      go_ret
      exact ⟨ret_int (by rw [HN.out]; rfl), rfl⟩
    · obtain ⟨j, rfl⟩ : ∃ j, i = j + 1 := ⟨i - 1, by omega⟩
      have hlt : n < 72057594037927936 := by rw [HN.out]; exact big_drop_lt hs (by omega)
      have hj' : j < s.size := by omega
      go_wp2
      go_step3
      refine ⟨rfl, gaJ_next hj' HN (or_low8 _ hlt) rfl _ _ _ _ _ _ _ _ _ _ _ _ _ _, ?_⟩
      simp [gaMu, intOf]
theorem gather_at {l : List UInt8} {s : ByteArray} (h : s = bs l) (hl : l.length ≤ 8) (w : World) :
    Calls Tryz.prog 96 #[.string s] w fun e w' => e = .returned (.int .u64 (big l)) ∧ w = w' := by
  subst h; exact gather_any (bs l) (by rw [bs_size]; exact hl) w
theorem dTake_small {l : List UInt8} {at_ : Nat} {err n : Int} (h : n ≤ 8) : (dTake l at_ err n).1.length ≤ 8 := by
  by_cases he : err = 0
  · subst he
    by_cases h2 : n < 0 ∨ (l.length : Int) - at_ < n
    · rw [dTake_short h2]; simp
    · rw [dTake_ok (by omega) (by omega)]; simp; omega
  · rw [dTake_bad he]; simp
theorem rwide_any {w : World} {a : Nat} {s : ByteArray} {at_ : Nat} {err : Int} (h : RdAt 149 w a s at_ err) (hs : s.size ≤ 1000000) (ha : at_ ≤ s.size) :
    Calls Tryz.prog 59 #[.pointer (some ⟨a, 0, none⟩)] w (RdPost 149 w a s (.int .u64 (big (dTake s.data.toList at_ err 8).1)) (dTake s.data.toList at_ err 8).2) := by
  have hl := dTake_small (l := s.data.toList) (at_ := at_) (err := err) (n := 8) (by omega)
  have HC := cut_any 8 h hs ha
  generalize dTake s.data.toList at_ err 8 = r at hl HC ⊢
  obtain ⟨l2, at2, err2⟩ := r
  have HC := Lib.hid HC
  clear h
  go_enter Tryz.func59, Tryz.ntmps59
  go_wp2_with (first
    | (go_at_call 97; refine HC.out.mono ?_; rintro e w1 ⟨rfl, h1, g1⟩; have H1 := Lib.hid h1; clear h1)
    | (go_at_call 96; refine (gather_at (l := l2) rfl hl _).mono ?_; rintro e w' ⟨rfl, rfl⟩))
  go_ret
  exact ⟨rfl, H1.out, g1⟩
theorem max_nat {n : Int} (h : n ≤ 9223372036854775807) : ∃ m : Nat, max n 0 = (m : Int) ∧ m ≤ 9223372036854775807 := ⟨(max n 0).toNat, by omega, by omega⟩
theorem rtext_nil (n : Int) (hn : n ≤ 9223372036854775807) (w : World) : Calls Tryz.prog 101 #[.pointer none, .int .i64 n] w fun e w' => e = .returned (.string (bs [])) ∧ Below w.heap.size w w' := by
  obtain ⟨m, hm, hm2⟩ := max_nat hn
  go_enter Tryz.func101, Tryz.ntmps101
  go_wp2_with (first
    | (go_at_call 60; refine (rnum_nil _).mono ?_; rintro e w' ⟨rfl, rfl⟩)
    | (go_at_call 99; refine (take_nil _ _).mono ?_; rintro e w' ⟨rfl, hb⟩))
  go_ret
  exact ⟨rfl, hb⟩
def dText (l : List UInt8) (at_ : Nat) (err most : Int) : List UInt8 × Nat × Int :=
  if max most 0 < (dNum l at_ err).1 then ([], dFail (dNum l at_ err).2.1 (dNum l at_ err).2.2 5) else dTake l (dNum l at_ err).2.1 (dNum l at_ err).2.2 (dNum l at_ err).1
theorem rtext_any {w : World} {a : Nat} {s : ByteArray} {at_ : Nat} {err : Int} (most : Int) (hmo : most ≤ 9223372036854775807) (h : RdAt 149 w a s at_ err) (hs : s.size ≤ 1000000) (ha : at_ ≤ s.size) :
    Calls Tryz.prog 101 #[.pointer (some ⟨a, 0, none⟩), .int .i64 most] w (RdPost 149 w a s (.string (bs (dText s.data.toList at_ err most).1)) (dText s.data.toList at_ err most).2) := by
  have hl := dNum_lt s.data.toList at_ err
  have ha2 := dNum_at (l := s.data.toList) (at_ := at_) (err := err) ha
  have HC := rnum_any h hs ha
  unfold dText
  generalize dNum s.data.toList at_ err = r at hl HC ha2 ⊢
  obtain ⟨n, at2, err2⟩ := r
  obtain ⟨m, hm, hm2⟩ := max_nat hmo
  rw [hm]
  simp only [] at hl ha2 ⊢
  have ha3 : Hid (at2 ≤ s.size) := ha2
  have HC := Lib.hid HC
  clear h ha2
  by_cases hc : m < n
  · rw [if_pos (by omega)]
    go_enter Tryz.func101, Tryz.ntmps101
    go_wp2_with (first
      | (go_at_call 60; refine HC.out.mono ?_; rintro e w1 ⟨rfl, h1, g1⟩; have H1 := Lib.hid h1; clear h1)
      | (go_at_call 61; refine (fail_any 5 H1.out).mono ?_; rintro e w2 ⟨rfl, h2, g2⟩; have H2 := Lib.hid h2; clear h2))
    go_ret
    exact ⟨rfl, H2.out, g1.trans g2⟩
  · rw [if_neg (by omega)]
    have hn : n ≤ 9223372036854775807 := by omega
    go_enter Tryz.func101, Tryz.ntmps101
    go_wp2_with (first
      | (go_at_call 60; refine HC.out.mono ?_; rintro e w1 ⟨rfl, h1, g1⟩; have H1 := Lib.hid h1; clear h1)
      | (go_at_call 99; refine (take_any n H1.out hs ha3.out).mono ?_; rintro e w2 ⟨rfl, h2, g2⟩; have H2 := Lib.hid h2; clear h2))
    go_ret
    exact ⟨rfl, H2.out, g1.trans g2⟩
theorem dText_at {l : List UInt8} {at_ : Nat} {err most : Int} (h : at_ ≤ l.length) : (dText l at_ err most).2.1 ≤ l.length := by
  have h2 := dNum_at (l := l) (at_ := at_) (err := err) h
  unfold dText
  split
  · show (dFail _ _ _).1 ≤ _
    rw [dFail_at]; exact h2
  · exact dTake_at h2
theorem dText_eq (l : List UInt8) (at_ : Nat) (err most : Int) : dText l at_ err most = if max most 0 < (dNum l at_ err).1 then ([], dFail (dNum l at_ err).2.1 (dNum l at_ err).2.2 5) else dTake l (dNum l at_ err).2.1 (dNum l at_ err).2.2 (dNum l at_ err).1 := rfl
attribute [irreducible] dText

end Go.Proofs.YtdkgieaanpfhcaaGreatDoor
