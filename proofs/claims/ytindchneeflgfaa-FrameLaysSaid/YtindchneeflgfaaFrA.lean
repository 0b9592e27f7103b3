/-
  The Go text that writes numbers of a fixed length, walked, and the document's. Conditions: as each theorem states.
-/
import Derived.Test.YtindchneeflgfaaRows
import Derived.Test.YtindchneeflgfaaShelf
import Derived.Test.YtindchneeflgfaaViMath
import Derived.WalkKit
import Derived.ProofKit
import Derived.OpenShut
import Derived.Lib.Hide
import Derived.Lib.BufSteps
import Derived.Lib.SmallJoins
import Derived.Laws.IdiomStrings
import Derived.Outline
import Derived.WalkMore
import Derived.ScopeJumps
namespace Go.Proofs.Ytindchneeflgfaa
open Go.RowKit
open Vi

def bs (l : List UInt8) : ByteArray := ⟨l.toArray⟩
theorem bs_toList (l : List UInt8) : (bs l).data.toList = l := rfl
theorem bs_of (s : ByteArray) : bs s.data.toList = s := by cases s; rfl
theorem bs_size (l : List UInt8) : (bs l).size = l.length := by simp [bs, ByteArray.size]
theorem bs_append (a b : List UInt8) : bs a ++ bs b = bs (a ++ b) := by simp only [bs]; rw [ByteArray.mk_append_mk]
theorem ret_str {a b : List UInt8} (h : a = b) : Ending.returned (.string (bs a)) = .returned (.string (bs b)) := by rw [h]
theorem ret_int {k : IntKind} {a b : Int} (h : a = b) : Ending.returned (.int k a) = .returned (.int k b) := by rw [h]
theorem val_int {k : IntKind} {a b : Int} (h : a = b) : Value.int k a = .int k b := by rw [h]
def byteCells (l : List UInt8) : List Value := l.map fun b => Value.int .u8 (b.toNat : Int)
theorem byteCells_snoc (l : List UInt8) (c : UInt8) : byteCells l ++ [.int .u8 (c.toNat : Int)] = byteCells (l ++ [c]) := by simp [byteCells]
theorem byteCells_len (l : List UInt8) : (byteCells l).length = l.length := by simp [byteCells]
theorem info5 : (Try.prog.info? 5).map (fun i => (i.zero, i.size, i.bytes)) = some (some (.int .u8 0), 1, 1) := by kernel_rfl
theorem own_string {B : Nat} {v : Value} {n : Nat} {l : List UInt8} {W0 w : World} (h : Lib.OwnBuf B 5 v n (byteCells l) W0 w) :
    (convert 39 9 v).run Try.prog w = .ok (.string (bs l)) w := by
  obtain ⟨⟨hlen, hrow⟩, _, _⟩ := h
  rw [byteCells_len] at hlen
  rcases hrow with ⟨rfl, rfl⟩ | ⟨g, cap, cur, fz, rfl, hb, hg, _, _, _, _, htake⟩
  · have : l = [] := List.eq_nil_of_length_eq_zero (by omega)
    subst this
    exact run_convert_bytes_nil w _ 5 Try.underlying39 Try.underlying5 0 0 _ Try.underlying9
  · have hn : n = l.length := by omega
    subst hn
    refine run_convert_bytes_back w _ _ 5 ⟨g, 0, none⟩ cap l Try.underlying39 Try.underlying5 Try.underlying9 ?_
    intro j hj
    have hadd : (⟨g, 0, none⟩ : Addr).add j = ⟨g, j, none⟩ := by unfold Addr.add; split <;> simp_all
    rw [hadd, cell_of_row w g j cur _ fz hg]
    have h2 : (cur.toList.take (l.length * 1))[j]? = some (.int .u8 (l[j].toNat : Int)) := by
      rw [htake]; simp [byteCells, hj]
    rw [List.getElem?_take] at h2
    split at h2
    · simpa using h2
    · cases h2
theorem one_byte (W : World) (c : Int) : (convert 39 9 (.slice (some ⟨W.heap.size, 0, none⟩) 1 1)).run Try.prog (W.alloc (.cells #[.int .u8 c] 5)) =
    .ok (.string (bs [UInt8.ofNat c.toNat])) (W.alloc (.cells #[.int .u8 c] 5)) := by
  rw [run_convert_bytes_string _ _ _ 5 _ _ _ Try.underlying39 Try.underlying5 Try.underlying9]
  have hl := run_loadCells_list (P := Try.prog) (W.alloc (.cells #[.int .u8 c] 5)) ⟨W.heap.size, 0, none⟩ ([c].map (Value.int .u8)) (fun j v hj => by
    match j, hj with
    | 0, hj => simp at hj; subst hj; simp [Addr.add])
  rw [run_bytesToString _ _ 1 1 [c] hl]
  rfl
theorem low_byte (m : Nat) : 128 + UInt8.ofNat (m % 128) = UInt8.ofNat (m % 128 + 128) := by
  apply UInt8.toNat_inj.mp; simp; omega
def LayJ (n k : Nat) (w : World) (a' : Act) (w' : World) : Prop :=
  ∃ (m : Nat) (l : List UInt8) (v u6 u7 u8 u9 u10 u11 u12 u13 u14 u15 u16 u17 u18 : Value), l ++ little (k - l.length) m = little k n ∧ m < 18446744073709551616 ∧ l.length < k ∧ Lib.OwnBuf w.heap.size 5 v l.length (byteCells l) w w' ∧
    a' = { tmps := #[.int .u64 m, .int .i64 k, undef, undef, .string ⟨#[]⟩, v, u6, u7, u8, u9, u10, u11, u12, u13, u14, u15, u16, u17, u18, undef, undef], defers := [] }
def sliceLen : Value → Nat
  | .slice _ n _ => n
  | _ => 0
def layMu (a' : Act) : Nat := 8 - sliceLen (a'.tmps.getD 5 undef)
theorem own_len {B : Nat} {e : TypeId} {v : Value} {n : Nat} {xs : List Value} {W0 w : World} (h : Lib.OwnBuf B e v n xs W0 w) : sliceLen v = n := by
  rcases h.1.2 with ⟨rfl, h0⟩ | ⟨g, cap, _, _, rfl, _⟩
  · exact h0.symm
  · rfl
theorem own_form {B : Nat} {e : TypeId} {v : Value} {n : Nat} {xs : List Value} {W0 w : World} (h : Lib.OwnBuf B e v (n + 1) xs W0 w) : ∃ g cap, v = .slice (some ⟨g, 0, none⟩) (n + 1) cap := by
  rcases h.1.2 with ⟨_, h0⟩ | ⟨g, cap, _, _, hv, _⟩
  · omega
  · exact ⟨g, cap, hv⟩
theorem lay_step {n m k : Nat} {l : List UInt8} {w w2 : World} {v2 : Value} (h : Hid (l ++ little (k - l.length) m = little k n)) (hlt : l.length < k)
    (hb2 : Lib.OwnBuf w.heap.size 5 v2 (l.length + 1) (byteCells l ++ [.int .u8 ((m : Int) % 256)]) w w2) :
    Lib.OwnBuf w.heap.size 5 v2 (l.length + 1) (byteCells (l ++ [UInt8.ofNat (m % 256)])) w w2 ∧ l ++ [UInt8.ofNat (m % 256)] ++ little (k - (l.length + 1)) (m / 256) = little k n := by
  have e2 : (m : Int) % 256 = (((UInt8.ofNat (m % 256)).toNat : Nat) : Int) := by rw [toNat_of (by omega)]; omega
  rw [e2, byteCells_snoc] at hb2
  refine ⟨hb2, ?_⟩
  rw [← h.out, show k - l.length = (k - (l.length + 1)) + 1 by omega, little_succ]
  simp
theorem layJ_next {n m k : Nat} {l : List UInt8} {w w2 : World} {v2 : Value} (h : Hid (l ++ little (k - l.length) m = little k n)) (hlt : l.length + 1 < k) (hm : m < 18446744073709551616)
    (hb2 : Lib.OwnBuf w.heap.size 5 v2 (l.length + 1) (byteCells l ++ [.int .u8 ((m : Int) % 256)]) w w2) (u6 u7 u8 u9 u10 u11 u12 u13 u14 u15 u16 u17 u18 : Value) :
    LayJ n k w { tmps := #[.int .u64 ((m : Int) / 256), .int .i64 k, undef, undef, .string ⟨#[]⟩, v2, u6, u7, u8, u9, u10, u11, u12, u13, u14, u15, u16, u17, u18, undef, undef], defers := [] } w2 := by
  obtain ⟨h1, h2⟩ := lay_step h (by omega) hb2
  refine ⟨m / 256, l ++ [UInt8.ofNat (m % 256)], v2, u6, u7, u8, u9, u10, u11, u12, u13, u14, u15, u16, u17, u18, ?_, by omega, by simpa using hlt, ?_, ?_⟩
  · rw [List.length_append]; exact h2
  · rw [List.length_append]; exact h1
  · rw [show (m : Int) / 256 = ((m / 256 : Nat) : Int) by omega]
theorem lay_end {n m k : Nat} {l : List UInt8} {w w2 : World} {v2 : Value} (h : Hid (l ++ little (k - l.length) m = little k n)) (hlt : l.length + 1 = k)
    (hb2 : Lib.OwnBuf w.heap.size 5 v2 (l.length + 1) (byteCells l ++ [.int .u8 ((m : Int) % 256)]) w w2) :
    (convert 39 9 v2).run Try.prog w2 = .ok (.string (bs (little k n))) w2 := by
  obtain ⟨h1, h2⟩ := lay_step h (by omega) hb2
  rw [hlt, Nat.sub_self, little_zero, List.append_nil] at h2
  rw [← h2]
  exact own_string h1
set_option maxHeartbeats 1000000 in
theorem lay_any (n k : Nat) (hn : n < 18446744073709551616) (hk0 : 1 < k) (hk : k ≤ 8) (w : World) :
    Calls Try.prog 36 #[.int .u64 n, .int .i64 k] w fun e w' => e = .returned (.string (bs (little k n))) ∧ Below w.heap.size w w' := by
  obtain ⟨i0, hi0, hz0, hz1, hz2⟩ := info_parts info5
  go_enter Try.func36, Try.ntmps36
  go_wp2
  refine wp_scope_jumps 0 (LayJ n k w) (fun a' _ => layMu a') rfl ?_ ?_
  · go_wp2_with (with_reducible refine wpList_make_own _ rfl _ _ 39 rfl w.heap.size 5 i0 (.int .u8 0) 1 Try.underlying39 hi0 hz0 hz1 .i64 .i64 k k rfl rfl rfl (by rw [hz2]; omega) (by unfold maxLen; omega) (Nat.le_refl _) ?_)
    intro w1 hown hg
    have hb : Lib.OwnBuf w.heap.size 5 (.slice (some ⟨w.heap.size, 0, none⟩) 0 k) ([] : List UInt8).length (byteCells []) w w1 := ⟨World.ownsRowF_of hown, (Below.refl _ _).grown hg (Nat.le_refl _) (by simp), hg.size⟩
    clear hown hg
    go_wp2
    go_step3
    go_wp2_with (first
        | (at_builtin
           refine Lib.wpList_append_byte rfl (.tmp 8) (.tmp 11) 39 rfl w.heap.size 5 i0 Try.underlying39 hi0 hz0 hz1 hz2 _ _ _ rfl w _ _ hb rfl (by decide) ?_
           intro v2 w2 hb2
           obtain ⟨g, cap, rfl⟩ := own_form hb2
           clear hb))
    go_step3
    exact ⟨rfl, layJ_next (l := []) rfl hk0 hn hb2 _ _ _ _ _ _ _ _ _ _ _ _ _⟩
  · rintro a' w1 ⟨m, l, v, u6, u7, u8, u9, u10, u11, u12, u13, u14, u15, u16, u17, u18, hl, hm, hlt, hb, rfl⟩
    have HL := Lib.hid hl
    clear hl
    have HV := Lib.hid (own_len hb)
    by_cases hs : l.length + 1 < k
    · go_wp2_with (first
        | (at_builtin
           refine Lib.wpList_append_byte rfl (.tmp 8) (.tmp 11) 39 rfl w.heap.size 5 i0 Try.underlying39 hi0 hz0 hz1 hz2 _ _ _ rfl w _ _ hb rfl (by omega) ?_
           intro v2 w2 hb2
           obtain ⟨g, cap, rfl⟩ := own_form hb2
           clear hb))
      go_step3
      refine ⟨rfl, layJ_next HL hs hm hb2 _ _ _ _ _ _ _ _ _ _ _ _ _, ?_⟩
      show 8 - (l.length + 1) < 8 - sliceLen v
      rw [HV.out]; omega
    · go_wp2_with (first
        | (at_builtin
           refine Lib.wpList_append_byte rfl (.tmp 8) (.tmp 11) 39 rfl w.heap.size 5 i0 Try.underlying39 hi0 hz0 hz1 hz2 _ _ _ rfl w _ _ hb rfl (by omega) ?_
           intro v2 w2 hb2
           have hcv := lay_end HL (by omega) hb2
           obtain ⟨g, cap, rfl⟩ := own_form hb2
           clear hb))
      simp only [Exit.jump]
      go_ret
      exact ⟨rfl, hb2.2.1⟩
set_option maxHeartbeats 1000000 in
theorem refLittle_any (n k : Nat) (hn : n < 18446744073709551616) (hk : k ≤ 8) (w : World) :
    Calls Try.prog 23 #[.int .u64 n, .int .i64 k] w fun e w' => e = .returned (.string (bs (little k n))) ∧ Below w.heap.size w w' := by
  go_enter Try.func23, Try.ntmps23
  go_wp2
  go_loopw [0, 5, 6] (fun x s i wr => ∃ (m : Nat) (l : List UInt8), l ++ little (k - l.length) m = little k n ∧ l.length ≤ k ∧ m ≤ n ∧ x = .int .u64 m ∧ s = .string (bs l) ∧ i = .int .i64 l.length ∧ Below w.heap.size w wr) (fun _ _ i _ => k - (intOf i).toNat)
  case atStart => exact ⟨n, [], rfl, by simp, Nat.le_refl _, rfl, rfl, rfl, Below.refl _ _⟩
  case round =>
    obtain ⟨m, l, hl, hlk, hm, rfl, rfl, rfl, hb⟩ := hrel
    have HL := Lib.hid hl
    clear hl
    have hob := one_byte
    have hbz := bs_size
    have hba := bs_append
    by_cases hs : l.length < k
    · go_wp2
      go_roundw
      case rel => exact ⟨m / 256, l ++ [UInt8.ofNat (m % 256)], by
        rw [← HL.out, show k - l.length = (k - (l.length + 1)) + 1 by omega, little_succ]; simp, by simp; omega, by omega, by rw [show (m : Int) / 256 = ((m / 256 : Nat) : Int) by omega], by first | rfl | simp, by simp, hb.alloc hb.size _⟩
      case measure => simp [intOf]; omega
    · go_wp2
      go_ret
      exact ⟨ret_str (by rw [← HL.out, show k - l.length = 0 by omega, little_zero, List.append_nil]), hb⟩
theorem lay_at {x y : Int} {n k : Nat} (hx : x = n) (hy : y = k) (hn : n < 18446744073709551616) (hk0 : 1 < k) (hk : k ≤ 8) (w : World) :
    Calls Try.prog 36 #[.int .u64 x, .int .i64 y] w fun e w' => e = .returned (.string (bs (little k n))) ∧ Below w.heap.size w w' := by
  subst hx hy; exact lay_any n k hn hk0 hk w
theorem refLittle_at {x y : Int} {n k : Nat} (hx : x = n) (hy : y = k) (hn : n < 18446744073709551616) (hk : k ≤ 8) (w : World) :
    Calls Try.prog 23 #[.int .u64 x, .int .i64 y] w fun e w' => e = .returned (.string (bs (little k n))) ∧ Below w.heap.size w w' := by
  subst hx hy; exact refLittle_any n k hn hk w
theorem fixed_any (n : Nat) (hn : n < 4294967296) (w : World) :
    Calls Try.prog 28 #[.int .u32 n] w fun e w' => e = .returned (.string (bs (little 4 n))) ∧ Below w.heap.size w w' := by
  go_enter Try.func28, Try.ntmps28
  go_wp2_with (go_at_call 36; refine (lay_at (n := n) (k := 4) (by omega) (by omega) (by omega) (by omega) (by omega) _).mono ?_; rintro e w' ⟨rfl, hb⟩)
  go_ret
  exact ⟨rfl, hb⟩
theorem fixed_at {x : Int} {n : Nat} (hx : x = n) (hn : n < 4294967296) (w : World) :
    Calls Try.prog 28 #[.int .u32 x] w fun e w' => e = .returned (.string (bs (little 4 n))) ∧ Below w.heap.size w w' := by
  subst hx; exact fixed_any n hn w

end Go.Proofs.Ytindchneeflgfaa
