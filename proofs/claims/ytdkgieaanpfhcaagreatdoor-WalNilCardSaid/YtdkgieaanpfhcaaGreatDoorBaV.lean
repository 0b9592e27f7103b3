/-
  The Go text that writes numbers and texts, walked: Num, Text, Wide. Conditions: as each theorem states.
-/
import Derived.Test.YtdkgieaanpfhcaaGreatDoorRows
import Derived.Test.YtdkgieaanpfhcaaGreatDoorShelf
import Derived.Test.YtdkgieaanpfhcaaGreatDoorViMath
import Derived.WalkKit
import Derived.ProofKit
import Derived.OpenShut
import Derived.Lib.Hide
import Derived.Lib.BufSteps
import Derived.Lib.SmallJoins
import Derived.Laws.IdiomStrings
import Derived.Outline
import Derived.WalkMore
import Derived.ScopeJumps
namespace Go.Proofs.YtdkgieaanpfhcaaGreatDoor
open Go.RowKit
open Vi

/-! texts, and bytes in memory -/
def bs (l : List UInt8) : ByteArray := ⟨l.toArray⟩
theorem bs_toList (l : List UInt8) : (bs l).data.toList = l := rfl
theorem bs_of (s : ByteArray) : bs s.data.toList = s := by cases s; rfl
theorem bs_size (l : List UInt8) : (bs l).size = l.length := by simp [bs, ByteArray.size]
theorem bs_append (a b : List UInt8) : bs a ++ bs b = bs (a ++ b) := by simp only [bs]; rw [ByteArray.mk_append_mk]
theorem ret_str {a b : List UInt8} (h : a = b) : Ending.returned (.string (bs a)) = .returned (.string (bs b)) := by rw [h]
theorem ret_int {k : IntKind} {a b : Int} (h : a = b) : Ending.returned (.int k a) = .returned (.int k b) := by rw [h]
theorem val_int {k : IntKind} {a b : Int} (h : a = b) : Value.int k a = .int k b := by rw [h]
def byteCells (l : List UInt8) : List Value := l.map fun b => Value.int .u8 (b.toNat : Int)
theorem byteCells_snoc (l : List UInt8) (c : UInt8) : byteCells l ++ [.int .u8 (c.toNat : Int)] = byteCells (l ++ [c]) := by simp [byteCells]
theorem byteCells_len (l : List UInt8) : (byteCells l).length = l.length := by simp [byteCells]
theorem info5 : (Tryz.prog.info? 5).map (fun i => (i.zero, i.size, i.bytes)) = some (some (.int .u8 0), 1, 1) := by kernel_rfl
theorem own_string {B : Nat} {v : Value} {n : Nat} {l : List UInt8} {W0 w : World} (h : Lib.OwnBuf B 5 v n (byteCells l) W0 w) :
    (convert 88 9 v).run Tryz.prog w = .ok (.string (bs l)) w := by
  obtain ⟨⟨hlen, hrow⟩, _, _⟩ := h
  rw [byteCells_len] at hlen
  rcases hrow with ⟨rfl, rfl⟩ | ⟨g, cap, cur, fz, rfl, hb, hg, _, _, _, _, htake⟩
  · have : l = [] := List.eq_nil_of_length_eq_zero (by omega)
    subst this
    exact run_convert_bytes_nil w _ 5 Tryz.underlying88 Tryz.underlying5 0 0 _ Tryz.underlying9
  · have hn : n = l.length := by omega
    subst hn
    refine run_convert_bytes_back w _ _ 5 ⟨g, 0, none⟩ cap l Tryz.underlying88 Tryz.underlying5 Tryz.underlying9 ?_
    intro j hj
    have hadd : (⟨g, 0, none⟩ : Addr).add j = ⟨g, j, none⟩ := by unfold Addr.add; split <;> simp_all
    rw [hadd, cell_of_row w g j cur _ fz hg]
    have h2 : (cur.toList.take (l.length * 1))[j]? = some (.int .u8 (l[j].toNat : Int)) := by
      rw [htake]; simp [byteCells, hj]
    rw [List.getElem?_take] at h2
    split at h2
    · simpa using h2
    · cases h2
def NumJ (n : Nat) (w : World) (a' : Act) (w' : World) : Prop :=
  ∃ (m : Nat) (l : List UInt8) (v u4 u5 u6 u7 u8 u9 u10 u11 u12 u13 u14 u15 : Value), l ++ vnum m = vnum n ∧ m < 18446744073709551616 ∧ Lib.OwnBuf w.heap.size 5 v l.length (byteCells l) w w' ∧
    a' = { tmps := #[.int .u64 m, undef, .string ⟨#[]⟩, v, u4, u5, u6, u7, u8, u9, u10, u11, u12, u13, u14, u15, undef, undef, undef, undef, undef, undef], defers := [] }
def numMu (a' : Act) : Nat := (intOf (a'.tmps.getD 0 undef)).toNat
theorem and127 {m : Nat} (h : m < 18446744073709551616) : bits .and .u64 (m : Int) 127 = ((m % 128 : Nat) : Int) := by
  have := u64_and_nat m 127 h (by decide)
  rw [show m &&& 127 = m % 128 from Nat.and_two_pow_sub_one_eq_mod m 7] at this
  exact this
theorem or128 {m : Nat} (h : m < 128) : bits .or .u64 (m : Int) 128 = ((m + 128 : Nat) : Int) := by
  have := u64_or_nat m 128 (by omega) (by decide)
  rw [show m ||| 128 = m + 128 from by
    have := Nat.two_pow_add_eq_or_of_lt (i := 7) (b := m) h 1
    rw [Nat.or_comm]; simp at this; omega] at this
  exact this
theorem shr7 {m : Nat} : (m : Int) / 128 = ((m / 128 : Nat) : Int) := by omega
theorem numJ_next {n m : Nat} {l : List UInt8} {w w2 : World} {v2 : Value} (h : Hid (l ++ vnum m = vnum n)) (hm : ¬ m < 128) (hlt : m < 18446744073709551616)
    (hb2 : Lib.OwnBuf w.heap.size 5 v2 (l.length + 1) (byteCells l ++ [.int .u8 (bits .or .u64 ((m : Int) % 128) 128 % 256)]) w w2) (u4 u5 u6 u7 u8 u9 u10 u11 u12 u13 u14 u15 : Value) :
    NumJ n w { tmps := #[.int .u64 ((m : Int) / 128), undef, .string ⟨#[]⟩, v2, u4, u5, u6, u7, u8, u9, u10, u11, u12, u13, u14, u15, undef, undef, undef, undef, undef, undef], defers := [] } w2 := by
  have hor := or128 (m := m % 128) (by omega)
  have e : ((m % 128 : Nat) : Int) = (m : Int) % 128 := by omega
  rw [e] at hor
  have e2 : bits .or .u64 ((m : Int) % 128) 128 % 256 = (((UInt8.ofNat (m % 128 + 128)).toNat : Nat) : Int) := by rw [hor, toNat_of (by omega)]; omega
  rw [e2, byteCells_snoc] at hb2
  refine ⟨m / 128, l ++ [UInt8.ofNat (m % 128 + 128)], v2, u4, u5, u6, u7, u8, u9, u10, u11, u12, u13, u14, u15, ?_, by omega, ?_, ?_⟩
  · rw [← h.out, vnum_big (n := m) (by omega)]; simp
  · rw [List.length_append]; exact hb2
  · rw [shr7]
theorem num_end {m : Nat} {l : List UInt8} {w w2 : World} {v2 : Value} (hm : m < 128)
    (hb2 : Lib.OwnBuf w.heap.size 5 v2 (l.length + 1) (byteCells l ++ [.int .u8 (m : Int)]) w w2) :
    (convert 88 9 v2).run Tryz.prog w2 = .ok (.string (bs (l ++ vnum m))) w2 := by
  have e : (m : Int) = (((UInt8.ofNat m).toNat : Nat) : Int) := by rw [toNat_of (by omega)]
  rw [e, byteCells_snoc] at hb2
  rw [vnum_small hm]
  exact own_string hb2
set_option maxRecDepth 100000 in
set_option maxHeartbeats 1000000 in
theorem num_any (n : Nat) (hn : n < 18446744073709551616) (w : World) :
    Calls Tryz.prog 71 #[.int .u64 n] w fun e w' => e = .returned (.string (bs (vnum n))) ∧ Below w.heap.size w w' := by
  obtain ⟨i0, hi0, hz0, hz1, hz2⟩ := info_parts info5
  go_enter Tryz.func71, Tryz.ntmps71
  go_wp2
  refine wp_scope_jumps 0 (NumJ n w) (fun a' _ => numMu a') rfl ?_ ?_
  · go_wp2_with (with_reducible refine wpList_make_own _ rfl _ _ 88 rfl w.heap.size 5 i0 (.int .u8 0) 1 Tryz.underlying88 hi0 hz0 hz1 .i64 .i64 10 10 rfl rfl rfl (by omega) (by decide) (Nat.le_refl _) ?_)
    intro w1 hown hg
    have hb : Lib.OwnBuf w.heap.size 5 (.slice (some ⟨w.heap.size, 0, none⟩) 0 10) ([] : List UInt8).length (byteCells []) w w1 := ⟨World.ownsRowF_of hown, (Below.refl _ _).grown hg (Nat.le_refl _) (by simp), hg.size⟩
    clear hown hg
    by_cases hs : n < 128
    · go_wp2
      go_step3
      go_wp2_with (first
        | (at_builtin
           refine Lib.wpList_append_byte rfl (.tmp 16) (.tmp 19) 88 rfl w.heap.size 5 i0 Tryz.underlying88 hi0 hz0 hz1 hz2 _ _ _ rfl w _ _ hb rfl (by decide) ?_
           intro v2 w2 hb2
           have hcv := num_end hs hb2
           clear hb))
      simp only [Exit.jump]
      go_ret
      exact ⟨ret_str rfl, hb2.2.1⟩
    · have hand := and127 hn
      go_wp2
      go_step3
      go_wp2_with (first
        | (at_builtin
           refine Lib.wpList_append_byte rfl (.tmp 7) (.tmp 12) 88 rfl w.heap.size 5 i0 Tryz.underlying88 hi0 hz0 hz1 hz2 _ _ _ rfl w _ _ hb rfl (by decide) ?_
           intro v2 w2 hb2
           clear hb))
      go_step3
      exact ⟨rfl, numJ_next (l := []) rfl hs hn hb2 _ _ _ _ _ _ _ _ _ _ _ _⟩
  · rintro a' w1 ⟨m, l, v, u4, u5, u6, u7, u8, u9, u10, u11, u12, u13, u14, u15, hl, hm, hb, rfl⟩
    have hle : l.length ≤ 10 := by have := vnum_len10 hn; rw [← hl] at this; simp at this; omega
    have HL := Lib.hid hl
    clear hl
    by_cases hs : m < 128
    · go_wp2_with (first
        | (at_builtin
           refine Lib.wpList_append_byte rfl (.tmp 16) (.tmp 19) 88 rfl w.heap.size 5 i0 Tryz.underlying88 hi0 hz0 hz1 hz2 _ _ _ rfl w _ _ hb rfl (by omega) ?_
           intro v2 w2 hb2
           have hcv := num_end hs hb2
           clear hb))
      simp only [Exit.jump]
      go_ret
      exact ⟨ret_str HL.out, hb2.2.1⟩
    · have hand := and127 hm
      go_wp2_with (first
        | (at_builtin
           refine Lib.wpList_append_byte rfl (.tmp 7) (.tmp 12) 88 rfl w.heap.size 5 i0 Tryz.underlying88 hi0 hz0 hz1 hz2 _ _ _ rfl w _ _ hb rfl (by omega) ?_
           intro v2 w2 hb2
           clear hb))
      go_step3
      refine ⟨rfl, numJ_next HL hs hm hb2 _ _ _ _ _ _ _ _ _ _ _ _, ?_⟩
      simp [numMu, intOf]; omega
theorem one_byte (W : World) (c : Int) : (convert 88 9 (.slice (some ⟨W.heap.size, 0, none⟩) 1 1)).run Tryz.prog (W.alloc (.cells #[.int .u8 c] 5)) =
    .ok (.string (bs [UInt8.ofNat c.toNat])) (W.alloc (.cells #[.int .u8 c] 5)) := by
  rw [run_convert_bytes_string _ _ _ 5 _ _ _ Tryz.underlying88 Tryz.underlying5 Tryz.underlying9]
  have hl := run_loadCells_list (P := Tryz.prog) (W.alloc (.cells #[.int .u8 c] 5)) ⟨W.heap.size, 0, none⟩ ([c].map (Value.int .u8)) (fun j v hj => by
    match j, hj with
    | 0, hj => simp at hj; subst hj; simp [Addr.add])
  rw [run_bytesToString _ _ 1 1 [c] hl]
  rfl
theorem low_byte (m : Nat) : 128 + UInt8.ofNat (m % 128) = UInt8.ofNat (m % 128 + 128) := by
  apply UInt8.toNat_inj.mp; simp; omega
theorem num_at {x : Int} {n : Nat} (hx : x = n) (hn : n < 18446744073709551616) (w : World) :
    Calls Tryz.prog 71 #[.int .u64 x] w fun e w' => e = .returned (.string (bs (vnum n))) ∧ Below w.heap.size w w' := by
  subst hx; exact num_any n hn w
theorem text_any (s : ByteArray) (hs : s.size ≤ 1000000) (w : World) :
    Calls Tryz.prog 73 #[.string s] w fun e w' => e = .returned (.string (bs (vnum s.size ++ s.data.toList))) ∧ Below w.heap.size w w' := by
  go_enter Tryz.func73, Tryz.ntmps73
  go_wp2_with (go_at_call 71; refine (num_at (n := s.size) (by omega) (by omega) _).mono ?_; rintro e w' ⟨rfl, hb⟩; have hbz := bs_size; have hle := vnum_len10 (n := s.size) (by omega))
  go_ret
  exact ⟨by rw [← bs_append, bs_of]; rfl, hb⟩
def LayJ (n k : Nat) (w : World) (a' : Act) (w' : World) : Prop :=
  ∃ (m : Nat) (l : List UInt8) (v u6 u7 u8 u9 u10 u11 u12 u13 u14 u15 u16 u17 u18 : Value), l ++ little (k - l.length) m = little k n ∧ m < 18446744073709551616 ∧ l.length < k ∧ Lib.OwnBuf w.heap.size 5 v l.length (byteCells l) w w' ∧
    a' = { tmps := #[.int .u64 m, .int .i64 k, undef, undef, .string ⟨#[]⟩, v, u6, u7, u8, u9, u10, u11, u12, u13, u14, u15, u16, u17, u18, undef, undef], defers := [] }
def sliceLen : Value → Nat
  | .slice _ n _ => n
  | _ => 0
def layMu (a' : Act) : Nat := 8 - sliceLen (a'.tmps.getD 5 undef)
theorem own_len {B : Nat} {e : TypeId} {v : Value} {n : Nat} {xs : List Value} {W0 w : World} (h : Lib.OwnBuf B e v n xs W0 w) : sliceLen v = n := by
  rcases h.1.2 with ⟨rfl, h0⟩ | ⟨g, cap, _, _, rfl, _⟩
  · exact h0.symm
  · rfl
theorem own_form {B : Nat} {e : TypeId} {v : Value} {n : Nat} {xs : List Value} {W0 w : World} (h : Lib.OwnBuf B e v (n + 1) xs W0 w) : ∃ g cap, v = .slice (some ⟨g, 0, none⟩) (n + 1) cap := by
  rcases h.1.2 with ⟨_, h0⟩ | ⟨g, cap, _, _, hv, _⟩
  · omega
  · exact ⟨g, cap, hv⟩
theorem lay_step {n m k : Nat} {l : List UInt8} {w w2 : World} {v2 : Value} (h : Hid (l ++ little (k - l.length) m = little k n)) (hlt : l.length < k)
    (hb2 : Lib.OwnBuf w.heap.size 5 v2 (l.length + 1) (byteCells l ++ [.int .u8 ((m : Int) % 256)]) w w2) :
    Lib.OwnBuf w.heap.size 5 v2 (l.length + 1) (byteCells (l ++ [UInt8.ofNat (m % 256)])) w w2 ∧ l ++ [UInt8.ofNat (m % 256)] ++ little (k - (l.length + 1)) (m / 256) = little k n := by
  have e2 : (m : Int) % 256 = (((UInt8.ofNat (m % 256)).toNat : Nat) : Int) := by rw [toNat_of (by omega)]; omega
  rw [e2, byteCells_snoc] at hb2
  refine ⟨hb2, ?_⟩
  rw [← h.out, show k - l.length = (k - (l.length + 1)) + 1 by omega, little_succ]
  simp
theorem layJ_next {n m k : Nat} {l : List UInt8} {w w2 : World} {v2 : Value} (h : Hid (l ++ little (k - l.length) m = little k n)) (hlt : l.length + 1 < k) (hm : m < 18446744073709551616)
    (hb2 : Lib.OwnBuf w.heap.size 5 v2 (l.length + 1) (byteCells l ++ [.int .u8 ((m : Int) % 256)]) w w2) (u6 u7 u8 u9 u10 u11 u12 u13 u14 u15 u16 u17 u18 : Value) :
    LayJ n k w { tmps := #[.int .u64 ((m : Int) / 256), .int .i64 k, undef, undef, .string ⟨#[]⟩, v2, u6, u7, u8, u9, u10, u11, u12, u13, u14, u15, u16, u17, u18, undef, undef], defers := [] } w2 := by
  obtain ⟨h1, h2⟩ := lay_step h (by omega) hb2
  refine ⟨m / 256, l ++ [UInt8.ofNat (m % 256)], v2, u6, u7, u8, u9, u10, u11, u12, u13, u14, u15, u16, u17, u18, ?_, by omega, by simpa using hlt, ?_, ?_⟩
  · rw [List.length_append]; exact h2
  · rw [List.length_append]; exact h1
  · rw [show (m : Int) / 256 = ((m / 256 : Nat) : Int) by omega]
theorem lay_end {n m k : Nat} {l : List UInt8} {w w2 : World} {v2 : Value} (h : Hid (l ++ little (k - l.length) m = little k n)) (hlt : l.length + 1 = k)
    (hb2 : Lib.OwnBuf w.heap.size 5 v2 (l.length + 1) (byteCells l ++ [.int .u8 ((m : Int) % 256)]) w w2) :
    (convert 88 9 v2).run Tryz.prog w2 = .ok (.string (bs (little k n))) w2 := by
  obtain ⟨h1, h2⟩ := lay_step h (by omega) hb2
  rw [hlt, Nat.sub_self, little_zero, List.append_nil] at h2
  rw [← h2]
  exact own_string h1
set_option maxHeartbeats 1000000 in
set_option maxRecDepth 100000 in
theorem lay_any (n k : Nat) (hn : n < 18446744073709551616) (hk0 : 1 < k) (hk : k ≤ 8) (w : World) :
    Calls Tryz.prog 107 #[.int .u64 n, .int .i64 k] w fun e w' => e = .returned (.string (bs (little k n))) ∧ Below w.heap.size w w' := by
  obtain ⟨i0, hi0, hz0, hz1, hz2⟩ := info_parts info5
  go_enter Tryz.func107, Tryz.ntmps107
  go_wp2
  refine wp_scope_jumps 0 (LayJ n k w) (fun a' _ => layMu a') rfl ?_ ?_
  · go_wp2_with (with_reducible refine wpList_make_own _ rfl _ _ 88 rfl w.heap.size 5 i0 (.int .u8 0) 1 Tryz.underlying88 hi0 hz0 hz1 .i64 .i64 k k rfl rfl rfl (by rw [hz2]; omega) (by unfold maxLen; omega) (Nat.le_refl _) ?_)
    intro w1 hown hg
    have hb : Lib.OwnBuf w.heap.size 5 (.slice (some ⟨w.heap.size, 0, none⟩) 0 k) ([] : List UInt8).length (byteCells []) w w1 := ⟨World.ownsRowF_of hown, (Below.refl _ _).grown hg (Nat.le_refl _) (by simp), hg.size⟩
    clear hown hg
    go_wp2
    go_step3
    go_wp2_with (first
        | (at_builtin
           refine Lib.wpList_append_byte rfl (.tmp 8) (.tmp 11) 88 rfl w.heap.size 5 i0 Tryz.underlying88 hi0 hz0 hz1 hz2 _ _ _ rfl w _ _ hb rfl (by decide) ?_
           intro v2 w2 hb2
           obtain ⟨g, cap, rfl⟩ := own_form hb2
           clear hb))
    go_step3
    exact ⟨rfl, layJ_next (l := []) rfl hk0 hn hb2 _ _ _ _ _ _ _ _ _ _ _ _ _⟩
  · rintro a' w1 ⟨m, l, v, u6, u7, u8, u9, u10, u11, u12, u13, u14, u15, u16, u17, u18, hl, hm, hlt, hb, rfl⟩
    have HL := Lib.hid hl
    clear hl
    have HV := Lib.hid (own_len hb)
    by_cases hs : l.length + 1 < k
    · go_wp2_with (first
        | (at_builtin
           refine Lib.wpList_append_byte rfl (.tmp 8) (.tmp 11) 88 rfl w.heap.size 5 i0 Tryz.underlying88 hi0 hz0 hz1 hz2 _ _ _ rfl w _ _ hb rfl (by omega) ?_
           intro v2 w2 hb2
           obtain ⟨g, cap, rfl⟩ := own_form hb2
           clear hb))
      go_step3
      refine ⟨rfl, layJ_next HL hs hm hb2 _ _ _ _ _ _ _ _ _ _ _ _ _, ?_⟩
      show 8 - (l.length + 1) < 8 - sliceLen v
      rw [HV.out]; omega
    · go_wp2_with (first
        | (at_builtin
           refine Lib.wpList_append_byte rfl (.tmp 8) (.tmp 11) 88 rfl w.heap.size 5 i0 Tryz.underlying88 hi0 hz0 hz1 hz2 _ _ _ rfl w _ _ hb rfl (by omega) ?_
           intro v2 w2 hb2
           have hcv := lay_end HL (by omega) hb2
           obtain ⟨g, cap, rfl⟩ := own_form hb2
           clear hb))
      simp only [Exit.jump]
      go_ret
      exact ⟨rfl, hb2.2.1⟩
theorem lay_at {x y : Int} {n k : Nat} (hx : x = n) (hy : y = k) (hn : n < 18446744073709551616) (hk0 : 1 < k) (hk : k ≤ 8) (w : World) :
    Calls Tryz.prog 107 #[.int .u64 x, .int .i64 y] w fun e w' => e = .returned (.string (bs (little k n))) ∧ Below w.heap.size w w' := by
  subst hx hy; exact lay_any n k hn hk0 hk w
theorem wide_any (n : Nat) (hn : n < 18446744073709551616) (w : World) :
    Calls Tryz.prog 70 #[.int .u64 n] w fun e w' => e = .returned (.string (bs (little 8 n))) ∧ Below w.heap.size w w' := by
  go_enter Tryz.func70, Tryz.ntmps70
  go_wp2_with (go_at_call 107; refine (lay_at (n := n) (k := 8) (by omega) (by omega) (by omega) (by omega) (by omega) _).mono ?_; rintro e w' ⟨rfl, hb⟩)
  go_ret
  exact ⟨rfl, hb⟩

end Go.Proofs.YtdkgieaanpfhcaaGreatDoor
