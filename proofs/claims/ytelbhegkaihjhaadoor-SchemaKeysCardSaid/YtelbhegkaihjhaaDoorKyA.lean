/-
  Bytes in memory, numbers in eight bytes, and a reader of them: the Go text of varint that keys use, walked. Conditions: as each theorem states.
-/
import Derived.Test.YtelbhegkaihjhaaDoorRows
import Derived.Test.YtelbhegkaihjhaaDoorShelf
import Derived.Test.YtelbhegkaihjhaaDoorViMath
import Derived.WalkKit
import Derived.ProofKit
import Derived.OpenShut
import Derived.Lib.Hide
import Derived.Lib.BufSteps
import Derived.Lib.SmallJoins
import Derived.Lib.Strings
import Derived.Laws.IdiomStrings
import Derived.Laws.Rows
import Derived.Maps.OwnSet
import Derived.Maps.AppendAt
import Derived.Outline
import Derived.WalkMore
import Derived.ScopeJumps
import Derived.Deep.QuietTactic
import Derived.BigQuiet
import Derived.BigRegion
import Derived.StillTailTactics
import Derived.Deep.RegionHeld3
namespace Go.Proofs.YtelbhegkaihjhaaDoor
open Go.RowKit
open Vi

def bs (l : List UInt8) : ByteArray := ⟨l.toArray⟩
theorem bs_toList (l : List UInt8) : (bs l).data.toList = l := rfl
theorem bs_of (s : ByteArray) : bs s.data.toList = s := by cases s; rfl
theorem bs_size (l : List UInt8) : (bs l).size = l.length := by simp [bs, ByteArray.size]
theorem bs_append (a b : List UInt8) : bs a ++ bs b = bs (a ++ b) := by simp only [bs]; rw [ByteArray.mk_append_mk]
theorem ret_str {a b : List UInt8} (h : a = b) : Ending.returned (.string (bs a)) = .returned (.string (bs b)) := by rw [h]
theorem ret_int {k : IntKind} {a b : Int} (h : a = b) : Ending.returned (.int k a) = .returned (.int k b) := by rw [h]
theorem val_int {k : IntKind} {a b : Int} (h : a = b) : Value.int k a = .int k b := by rw [h]
def byteCells (l : List UInt8) : List Value := l.map fun b => Value.int .u8 (b.toNat : Int)
theorem byteCells_snoc (l : List UInt8) (c : UInt8) : byteCells l ++ [.int .u8 (c.toNat : Int)] = byteCells (l ++ [c]) := by simp [byteCells]
theorem byteCells_len (l : List UInt8) : (byteCells l).length = l.length := by simp [byteCells]
theorem info5 : (Tryd.prog.info? 5).map (fun i => (i.zero, i.size, i.bytes)) = some (some (.int .u8 0), 1, 1) := by kernel_rfl
theorem own_string {B : Nat} {v : Value} {n : Nat} {l : List UInt8} {W0 w : World} (h : Lib.OwnBuf B 5 v n (byteCells l) W0 w) :
    (convert 70 9 v).run Tryd.prog w = .ok (.string (bs l)) w := by
  obtain ⟨⟨hlen, hrow⟩, _, _⟩ := h
  rw [byteCells_len] at hlen
  rcases hrow with ⟨rfl, rfl⟩ | ⟨g, cap, cur, fz, rfl, hb, hg, _, _, _, _, htake⟩
  · have : l = [] := List.eq_nil_of_length_eq_zero (by omega)
    subst this
    exact run_convert_bytes_nil w _ 5 Tryd.underlying70 Tryd.underlying5 0 0 _ Tryd.underlying9
  · have hn : n = l.length := by omega
    subst hn
    refine run_convert_bytes_back w _ _ 5 ⟨g, 0, none⟩ cap l Tryd.underlying70 Tryd.underlying5 Tryd.underlying9 ?_
    intro j hj
    have hadd : (⟨g, 0, none⟩ : Addr).add j = ⟨g, j, none⟩ := by unfold Addr.add; split <;> simp_all
    rw [hadd, cell_of_row w g j cur _ fz hg]
    have h2 : (cur.toList.take (l.length * 1))[j]? = some (.int .u8 (l[j].toNat : Int)) := by
      rw [htake]; simp [byteCells, hj]
    rw [List.getElem?_take] at h2
    split at h2
    · simpa using h2
    · cases h2
theorem one_byte (W : World) (c : Int) : (convert 70 9 (.slice (some ⟨W.heap.size, 0, none⟩) 1 1)).run Tryd.prog (W.alloc (.cells #[.int .u8 c] 5)) =
    .ok (.string (bs [UInt8.ofNat c.toNat])) (W.alloc (.cells #[.int .u8 c] 5)) := by
  rw [run_convert_bytes_string _ _ _ 5 _ _ _ Tryd.underlying70 Tryd.underlying5 Tryd.underlying9]
  have hl := run_loadCells_list (P := Tryd.prog) (W.alloc (.cells #[.int .u8 c] 5)) ⟨W.heap.size, 0, none⟩ ([c].map (Value.int .u8)) (fun j v hj => by
    match j, hj with
    | 0, hj => simp at hj; subst hj; simp [Addr.add])
  rw [run_bytesToString _ _ 1 1 [c] hl]
  rfl
def LayJ (n k : Nat) (w : World) (a' : Act) (w' : World) : Prop :=
  ∃ (m : Nat) (l : List UInt8) (v u6 u7 u8 u9 u10 u11 u12 u13 u14 u15 u16 u17 u18 : Value), l ++ little (k - l.length) m = little k n ∧ m < 18446744073709551616 ∧ l.length < k ∧ Lib.OwnBuf w.heap.size 5 v l.length (byteCells l) w w' ∧
    a' = { tmps := #[.int .u64 m, .int .i64 k, undef, undef, .string ⟨#[]⟩, v, u6, u7, u8, u9, u10, u11, u12, u13, u14, u15, u16, u17, u18, undef, undef], defers := [] }
def sliceLen : Value → Nat
  | .slice _ n _ => n
  | _ => 0
def layMu (a' : Act) : Nat := 8 - sliceLen (a'.tmps.getD 5 undef)
theorem own_len {B : Nat} {e : TypeId} {v : Value} {n : Nat} {xs : List Value} {W0 w : World} (h : Lib.OwnBuf B e v n xs W0 w) : sliceLen v = n := by
  rcases h.1.2 with ⟨rfl, h0⟩ | ⟨g, cap, _, _, rfl, _⟩
  · exact h0.symm
  · rfl
theorem own_form {B : Nat} {e : TypeId} {v : Value} {n : Nat} {xs : List Value} {W0 w : World} (h : Lib.OwnBuf B e v (n + 1) xs W0 w) : ∃ g cap, v = .slice (some ⟨g, 0, none⟩) (n + 1) cap := by
  rcases h.1.2 with ⟨_, h0⟩ | ⟨g, cap, _, _, hv, _⟩
  · omega
  · exact ⟨g, cap, hv⟩
theorem lay_step {n m k : Nat} {l : List UInt8} {w w2 : World} {v2 : Value} (h : Hid (l ++ little (k - l.length) m = little k n)) (hlt : l.length < k)
    (hb2 : Lib.OwnBuf w.heap.size 5 v2 (l.length + 1) (byteCells l ++ [.int .u8 ((m : Int) % 256)]) w w2) :
    Lib.OwnBuf w.heap.size 5 v2 (l.length + 1) (byteCells (l ++ [UInt8.ofNat (m % 256)])) w w2 ∧ l ++ [UInt8.ofNat (m % 256)] ++ little (k - (l.length + 1)) (m / 256) = little k n := by
  have e2 : (m : Int) % 256 = (((UInt8.ofNat (m % 256)).toNat : Nat) : Int) := by rw [toNat_of (by omega)]; omega
  rw [e2, byteCells_snoc] at hb2
  refine ⟨hb2, ?_⟩
  rw [← h.out, show k - l.length = (k - (l.length + 1)) + 1 by omega, little_succ]
  simp
theorem layJ_next {n m k : Nat} {l : List UInt8} {w w2 : World} {v2 : Value} (h : Hid (l ++ little (k - l.length) m = little k n)) (hlt : l.length + 1 < k) (hm : m < 18446744073709551616)
    (hb2 : Lib.OwnBuf w.heap.size 5 v2 (l.length + 1) (byteCells l ++ [.int .u8 ((m : Int) % 256)]) w w2) (u6 u7 u8 u9 u10 u11 u12 u13 u14 u15 u16 u17 u18 : Value) :
    LayJ n k w { tmps := #[.int .u64 ((m : Int) / 256), .int .i64 k, undef, undef, .string ⟨#[]⟩, v2, u6, u7, u8, u9, u10, u11, u12, u13, u14, u15, u16, u17, u18, undef, undef], defers := [] } w2 := by
  obtain ⟨h1, h2⟩ := lay_step h (by omega) hb2
  refine ⟨m / 256, l ++ [UInt8.ofNat (m % 256)], v2, u6, u7, u8, u9, u10, u11, u12, u13, u14, u15, u16, u17, u18, ?_, by omega, by simpa using hlt, ?_, ?_⟩
  · rw [List.length_append]; exact h2
  · rw [List.length_append]; exact h1
  · rw [show (m : Int) / 256 = ((m / 256 : Nat) : Int) by omega]
theorem lay_end {n m k : Nat} {l : List UInt8} {w w2 : World} {v2 : Value} (h : Hid (l ++ little (k - l.length) m = little k n)) (hlt : l.length + 1 = k)
    (hb2 : Lib.OwnBuf w.heap.size 5 v2 (l.length + 1) (byteCells l ++ [.int .u8 ((m : Int) % 256)]) w w2) :
    (convert 70 9 v2).run Tryd.prog w2 = .ok (.string (bs (little k n))) w2 := by
  obtain ⟨h1, h2⟩ := lay_step h (by omega) hb2
  rw [hlt, Nat.sub_self, little_zero, List.append_nil] at h2
  rw [← h2]
  exact own_string h1
set_option maxHeartbeats 1000000 in
set_option maxRecDepth 100000 in
theorem lay_any (n k : Nat) (hn : n < 18446744073709551616) (hk0 : 1 < k) (hk : k ≤ 8) (w : World) :
    Calls Tryd.prog 64 #[.int .u64 n, .int .i64 k] w fun e w' => e = .returned (.string (bs (little k n))) ∧ Below w.heap.size w w' := by
  obtain ⟨i0, hi0, hz0, hz1, hz2⟩ := info_parts info5
  go_enter Tryd.func64, Tryd.ntmps64
  go_wp2
  refine wp_scope_jumps 0 (LayJ n k w) (fun a' _ => layMu a') rfl ?_ ?_
  · go_wp2_with (with_reducible refine wpList_make_own _ rfl _ _ 70 rfl w.heap.size 5 i0 (.int .u8 0) 1 Tryd.underlying70 hi0 hz0 hz1 .i64 .i64 k k rfl rfl rfl (by rw [hz2]; omega) (by unfold maxLen; omega) (Nat.le_refl _) ?_)
    intro w1 hown hg
    have hb : Lib.OwnBuf w.heap.size 5 (.slice (some ⟨w.heap.size, 0, none⟩) 0 k) ([] : List UInt8).length (byteCells []) w w1 := ⟨World.ownsRowF_of hown, (Below.refl _ _).grown hg (Nat.le_refl _) (by simp), hg.size⟩
    clear hown hg
    go_wp2
    go_step3
    go_wp2_with (first
        | (at_builtin
           refine Lib.wpList_append_byte rfl (.tmp 8) (.tmp 11) 70 rfl w.heap.size 5 i0 Tryd.underlying70 hi0 hz0 hz1 hz2 _ _ _ rfl w _ _ hb rfl (by decide) ?_
           intro v2 w2 hb2
           obtain ⟨g, cap, rfl⟩ := own_form hb2
           clear hb))
    go_step3
    exact ⟨rfl, layJ_next (l := []) rfl hk0 hn hb2 _ _ _ _ _ _ _ _ _ _ _ _ _⟩
  · rintro a' w1 ⟨m, l, v, u6, u7, u8, u9, u10, u11, u12, u13, u14, u15, u16, u17, u18, hl, hm, hlt, hb, rfl⟩
    have HL := Lib.hid hl
    clear hl
    have HV := Lib.hid (own_len hb)
    by_cases hs : l.length + 1 < k
    · go_wp2_with (first
        | (at_builtin
           refine Lib.wpList_append_byte rfl (.tmp 8) (.tmp 11) 70 rfl w.heap.size 5 i0 Tryd.underlying70 hi0 hz0 hz1 hz2 _ _ _ rfl w _ _ hb rfl (by omega) ?_
           intro v2 w2 hb2
           obtain ⟨g, cap, rfl⟩ := own_form hb2
           clear hb))
      go_step3
      refine ⟨rfl, layJ_next HL hs hm hb2 _ _ _ _ _ _ _ _ _ _ _ _ _, ?_⟩
      show 8 - (l.length + 1) < 8 - sliceLen v
      rw [HV.out]; omega
    · go_wp2_with (first
        | (at_builtin
           refine Lib.wpList_append_byte rfl (.tmp 8) (.tmp 11) 70 rfl w.heap.size 5 i0 Tryd.underlying70 hi0 hz0 hz1 hz2 _ _ _ rfl w _ _ hb rfl (by omega) ?_
           intro v2 w2 hb2
           have hcv := lay_end HL (by omega) hb2
           obtain ⟨g, cap, rfl⟩ := own_form hb2
           clear hb))
      simp only [Exit.jump]
      go_ret
      exact ⟨rfl, hb2.2.1⟩
theorem lay_at {x y : Int} {n k : Nat} (hx : x = n) (hy : y = k) (hn : n < 18446744073709551616) (hk0 : 1 < k) (hk : k ≤ 8) (w : World) :
    Calls Tryd.prog 64 #[.int .u64 x, .int .i64 y] w fun e w' => e = .returned (.string (bs (little k n))) ∧ Below w.heap.size w w' := by
  subst hx hy; exact lay_any n k hn hk0 hk w
theorem wide_any (n : Nat) (hn : n < 18446744073709551616) (w : World) :
    Calls Tryd.prog 59 #[.int .u64 n] w fun e w' => e = .returned (.string (bs (little 8 n))) ∧ Below w.heap.size w w' := by
  go_enter Tryd.func59, Tryd.ntmps59
  go_wp2_with (go_at_call 64; refine (lay_at (n := n) (k := 8) (by omega) (by omega) (by omega) (by omega) (by omega) _).mono ?_; rintro e w' ⟨rfl, hb⟩)
  go_ret
  exact ⟨rfl, hb⟩
def RdAt (t : TypeId) (w : World) (a : Nat) (s : ByteArray) (at_ : Nat) (err : Int) : Prop :=
  w.heap[a]? = some (.cells #[.string s, .int .i64 at_, .int .i64 err] t (0, 0))
theorem cell_in {w : World} {g : Nat} {c : Array Value} {t : TypeId} (h : w.heap[g]? = some (.cells c t (0, 0))) (j : Nat) (v : Value) (hj : c[j]? = some v) :
    w.cell? ⟨g, j, none⟩ = some v := by rw [cell_of_row w g j c t (0, 0) h]; exact hj
theorem free_in {w : World} {g : Nat} {c : Array Value} {t : TypeId} (h : w.heap[g]? = some (.cells c t (0, 0))) (j : Nat) : w.frozen? ⟨g, j, none⟩ = false := by
  simp [World.frozen?, h]
theorem heap_set {w : World} {g : Nat} {c : Array Value} {t : TypeId} {fr : Nat × Nat} (h : w.heap[g]? = some (.cells c t fr)) (j : Nat) (v : Value) :
    (w.setCell ⟨g, j, none⟩ v).heap[g]? = some (.cells (c.setIfInBounds j v) t fr) := by
  simp only [World.setCell, Array.getElem?_modify, if_true, h]
  rfl
theorem grown_set (w : World) (g j : Nat) (v : Value) : w.grownBy (w.setCell ⟨g, j, none⟩ v) (some g) :=
  ⟨rfl, rfl, rfl, by simp [World.setCell], fun k _ hk => Below.heap_setCell w ⟨g, j, none⟩ v k (fun e => hk (by rw [e]))⟩
theorem grown_drewN (w : World) (n : Nat) (row : Option Nat) : w.grownBy (w.drewN n) row := ⟨rfl, rfl, rfl, Nat.le_refl _, fun _ _ _ => rfl⟩
theorem grown_below {w w' : World} (h : Below w.heap.size w w') (row : Option Nat) : w.grownBy w' row := ⟨h.os, h.tape, h.output, h.size, fun i hi _ => h.block i hi⟩
section
variable {t : TypeId} {w : World} {a : Nat} {s : ByteArray} {at_ : Nat} {err : Int}
theorem rd0 (h : RdAt t w a s at_ err) : w.cell? ⟨a, 0, none⟩ = some (.string s) := cell_in h 0 _ rfl
theorem rd1 (h : RdAt t w a s at_ err) : w.cell? ⟨a, 1, none⟩ = some (.int .i64 at_) := cell_in h 1 _ rfl
theorem rd2 (h : RdAt t w a s at_ err) : w.cell? ⟨a, 2, none⟩ = some (.int .i64 err) := cell_in h 2 _ rfl
theorem rd_lt (h : RdAt t w a s at_ err) : a < w.heap.size := (Array.getElem?_eq_some_iff.1 h).1
theorem rd_drewN (h : RdAt t w a s at_ err) (n : Nat) : RdAt t (w.drewN n) a s at_ err := h
theorem rd_kept {w' : World} {row : Option Nat} (h : RdAt t w a s at_ err) (hg : w.grownBy w' row) (hne : some a ≠ row) : RdAt t w' a s at_ err := by
  unfold RdAt; rw [hg.block a (rd_lt h) hne]; exact h
end
theorem over_any (s : ByteArray) (w : World) :
    Calls Tryd.prog 46 #[.string s] w fun e w' => e = .returned (.pointer (some ⟨w.heap.size, 0, none⟩)) ∧ RdAt 93 w' w.heap.size s 0 0 ∧ Below w.heap.size w w' := by
  go_enter Tryd.func46, Tryd.ntmps46
  go_wp2
  go_ret
  exact ⟨rfl, heap_alloc_new _ _, (Below.refl _ _).alloc (Nat.le_refl _) _⟩
theorem err_nil (w : World) : Calls Tryd.prog 49 #[.pointer none] w fun e w' => e = .returned (.int .i64 1) ∧ w = w' := by
  go_enter Tryd.func49, Tryd.ntmps49
  go_wp2
  go_ret
  exact ⟨rfl, rfl⟩
theorem err_any {w : World} {a : Nat} {s : ByteArray} {at_ : Nat} {err : Int} (h : RdAt 93 w a s at_ err) :
    Calls Tryd.prog 49 #[.pointer (some ⟨a, 0, none⟩)] w fun e w' => e = .returned (.int .i64 err) ∧ w = w' := by
  have c2 := rd2 h
  go_enter Tryd.func49, Tryd.ntmps49
  go_wp2
  go_ret
  exact ⟨rfl, rfl⟩
theorem at_nil (w : World) : Calls Tryd.prog 50 #[.pointer none] w fun e w' => e = .returned (.int .i64 0) ∧ w = w' := by
  go_enter Tryd.func50, Tryd.ntmps50
  go_wp2
  go_ret
  exact ⟨rfl, rfl⟩
theorem at_any {w : World} {a : Nat} {s : ByteArray} {at_ : Nat} {err : Int} (h : RdAt 93 w a s at_ err) :
    Calls Tryd.prog 50 #[.pointer (some ⟨a, 0, none⟩)] w fun e w' => e = .returned (.int .i64 at_) ∧ w = w' := by
  have c1 := rd1 h
  go_enter Tryd.func50, Tryd.ntmps50
  go_wp2
  go_ret
  exact ⟨rfl, rfl⟩
theorem left_nil (w : World) : Calls Tryd.prog 63 #[.pointer none] w fun e w' => e = .returned (.int .i64 0) ∧ w = w' := by
  go_enter Tryd.func63, Tryd.ntmps63
  go_wp2
  go_ret
  exact ⟨rfl, rfl⟩
theorem left_any {w : World} {a : Nat} {s : ByteArray} {at_ : Nat} {err : Int} (h : RdAt 93 w a s at_ err) (hs : s.size ≤ 1000000) (ha : at_ ≤ s.size) :
    Calls Tryd.prog 63 #[.pointer (some ⟨a, 0, none⟩)] w fun e w' => e = .returned (.int .i64 ((s.size : Int) - at_)) ∧ ∃ k, w' = w.drewN k := by
  have c0 := rd0 h
  have c1 := rd1 h
  go_enter Tryd.func63, Tryd.ntmps63
  go_wp2
  go_quiet (fail)
  go_wp2
  go_ret
  exact ⟨rfl, _, rfl⟩
theorem drop_at (s : ByteArray) (i : Nat) (h : i < s.size) : s.data.toList.drop i = s[i] :: s.data.toList.drop (i + 1) := by
  rw [List.drop_eq_getElem_cons (by simpa using h)]; rfl
theorem drop_all (s : ByteArray) : s.data.toList.drop s.size = [] := List.drop_of_length_le (Nat.le_refl _)
theorem bs_list (l : List UInt8) : (bs l).toList = l := by rw [Lib.toList_data]; rfl
theorem quiet_eq {P : Program} {f : FuncId} {args : Array Value} {w : World} {n : Nat} {v : Value}
    (h : Calls P f args (w.drewN n) fun e w' => e = .returned v ∧ w.drewN n = w') : Calls P f args (w.drewN n) fun e w'' => e = .returned v ∧ ∃ m, w'' = w.drewN m :=
  h.mono fun _ _ ⟨he, hm⟩ => ⟨he, n, hm.symm⟩
def dTake (l : List UInt8) (at_ : Nat) (err n : Int) : List UInt8 × Nat × Int :=
  if err = 0 then (if n < 0 ∨ (l.length : Int) - at_ < n then ([], at_, 3) else ((l.drop at_).take n.toNat, at_ + n.toNat, 0)) else ([], at_, err)
theorem dTake_at {l : List UInt8} {at_ : Nat} {err n : Int} (h : at_ ≤ l.length) : (dTake l at_ err n).2.1 ≤ l.length := by
  unfold dTake; split
  · split
    · exact h
    · simp; omega
  · exact h
theorem dTake_len {l : List UInt8} {at_ : Nat} {err n : Int} : (dTake l at_ err n).1.length ≤ l.length := by
  unfold dTake; split
  · split
    · simp
    · simp; omega
  · simp
theorem dTake_bad {l : List UInt8} {at_ : Nat} {err n : Int} (h : err ≠ 0) : dTake l at_ err n = ([], at_, err) := if_neg h
theorem dTake_short {l : List UInt8} {at_ : Nat} {n : Int} (h : n < 0 ∨ (l.length : Int) - at_ < n) : dTake l at_ 0 n = ([], at_, 3) := by unfold dTake; rw [if_pos rfl, if_pos h]
theorem dTake_ok {l : List UInt8} {at_ : Nat} {n : Int} (h : 0 ≤ n) (h2 : n ≤ (l.length : Int) - at_) : dTake l at_ 0 n = ((l.drop at_).take n.toNat, at_ + n.toNat, 0) := by unfold dTake; rw [if_pos rfl, if_neg (by omega)]
attribute [irreducible] dTake
def RdPost (t : TypeId) (w : World) (a : Nat) (s : ByteArray) (v : Value) (p : Nat × Int) (e : Ending) (w' : World) : Prop :=
  e = .returned v ∧ RdAt t w' a s p.1 p.2 ∧ w.grownBy w' (some a)
theorem size_len (s : ByteArray) : s.data.toList.length = s.size := rfl
theorem grown_refl (w : World) (row : Option Nat) : w.grownBy w row := ⟨rfl, rfl, rfl, Nat.le_refl _, fun _ _ _ => rfl⟩
theorem cut_nil (n : Int) (w : World) : Calls Tryd.prog 58 #[.pointer none, .int .i64 n] w fun e w' => e = .returned (.string (bs [])) ∧ w = w' := by
  go_enter Tryd.func58, Tryd.ntmps58
  go_wp2_with (go_at_call 49; refine (err_nil _).mono ?_; rintro e w' ⟨rfl, rfl⟩)
  go_ret
  exact ⟨rfl, rfl⟩
theorem cut_bad {w : World} {a : Nat} {s : ByteArray} {at_ : Nat} {err : Int} (n : Int) (h : RdAt 93 w a s at_ err) (he : (err == 0) = false) :
    Calls Tryd.prog 58 #[.pointer (some ⟨a, 0, none⟩), .int .i64 n] w fun e w' => e = .returned (.string (bs [])) ∧ w = w' := by
  have he' : (err != 0) = true := by simp [bne, he]
  go_enter Tryd.func58, Tryd.ntmps58
  go_wp2_with (go_at_call 49; refine (err_any h).mono ?_; rintro e w' ⟨rfl, rfl⟩)
  go_ret
  exact ⟨rfl, rfl⟩
theorem left_held {w : World} {a : Nat} {s : ByteArray} {at_ : Nat} {err : Int} (h : Hid (RdAt 93 w a s at_ err)) (hs : s.size ≤ 1000000) (ha : at_ ≤ s.size) :
    Calls Tryd.prog 63 #[.pointer (some ⟨a, 0, none⟩)] w fun e w' => e = .returned (.int .i64 ((s.size : Int) - at_)) ∧ ∃ k, w' = w.drewN k := left_any h.out hs ha
theorem cut_low {w : World} {a : Nat} {s : ByteArray} {at_ : Nat} (n : Int) (h : RdAt 93 w a s at_ 0) (hn : n < 0) :
    Calls Tryd.prog 58 #[.pointer (some ⟨a, 0, none⟩), .int .i64 n] w (RdPost 93 w a s (.string (bs [])) (at_, 3)) := by
  have c2 := rd2 h
  have f2 := free_in h 2
  have H := Lib.hid h
  clear h
  go_enter Tryd.func58, Tryd.ntmps58
  go_wp2_with (go_at_call 49; refine (err_any H.out).mono ?_; rintro e w' ⟨rfl, rfl⟩)
  go_ret
  exact ⟨rfl, heap_set H.out 2 _, grown_set _ _ _ _⟩
theorem cut_far {w : World} {a : Nat} {s : ByteArray} {at_ : Nat} (n : Int) (h : RdAt 93 w a s at_ 0) (hs : s.size ≤ 1000000) (ha : at_ ≤ s.size) (hn : (s.size : Int) - at_ < n) :
    Calls Tryd.prog 58 #[.pointer (some ⟨a, 0, none⟩), .int .i64 n] w (RdPost 93 w a s (.string (bs [])) (at_, 3)) := by
  have c2 := rd2 h
  have f2 := free_in h 2
  have H := Lib.hid h
  clear h
  have h0 : ¬ n < 0 := by omega
  go_enter Tryd.func58, Tryd.ntmps58
  go_wp2_with (first
    | (go_at_call 49; refine (err_any H.out).mono ?_; rintro e w' ⟨rfl, rfl⟩)
    | (go_at_call 63; refine (left_held H hs ha).mono ?_; rintro e w' ⟨rfl, k, rfl⟩))
  go_ret
  exact ⟨rfl, heap_set (rd_drewN H.out k) 2 _, (grown_drewN w k _).trans (grown_set _ _ _ _)⟩
theorem cut_ok {w : World} {a : Nat} {s : ByteArray} {at_ : Nat} (n : Nat) (h : RdAt 93 w a s at_ 0) (hs : s.size ≤ 1000000) (ha : at_ ≤ s.size) (hn : n ≤ s.size - at_) :
    Calls Tryd.prog 58 #[.pointer (some ⟨a, 0, none⟩), .int .i64 n] w (RdPost 93 w a s (.string (bs ((s.data.toList.drop at_).take n))) (at_ + n, 0)) := by
  have c0 := rd0 h
  have c1 := rd1 h
  have f1 := free_in h 1
  have H := Lib.hid h
  clear h
  have h0 : (n : Int) ≤ (s.size : Int) - at_ := by omega
  go_enter Tryd.func58, Tryd.ntmps58
  go_wp2_with (first
    | (go_at_call 49; refine (err_any H.out).mono ?_; rintro e w' ⟨rfl, rfl⟩)
    | (go_at_call 63; refine (left_held H hs ha).mono ?_; rintro e w' ⟨rfl, k, rfl⟩))
  have g1 : (at_ : Int) + n ≤ s.size := by omega
  have g2 : (0 : Int) ≤ (at_ : Int) + n := by omega
  have g3 : (at_ : Int) ≤ (at_ : Int) + n := by omega
  have g5 : at_ + n ≤ s.size := by omega
  have g4 : ((at_ : Int) + n).toNat = at_ + n := by omega
  go_quiet (fail)
  go_wp2
  go_ret
  have e : s.extract at_ (at_ + n) = bs ((s.data.toList.drop at_).take n) := by rw [Lib.extract_eq, Nat.add_sub_cancel_left]; rfl
  refine ⟨by rw [← e]; rfl, ?_, ((grown_drewN w k _).trans (grown_set _ _ _ _)).trans (grown_drewN _ nq _)⟩
  exact heap_set (rd_drewN H.out k) 1 _
theorem cut_any {w : World} {a : Nat} {s : ByteArray} {at_ : Nat} {err : Int} (n : Int) (h : RdAt 93 w a s at_ err) (hs : s.size ≤ 1000000) (ha : at_ ≤ s.size) :
    Calls Tryd.prog 58 #[.pointer (some ⟨a, 0, none⟩), .int .i64 n] w (RdPost 93 w a s (.string (bs (dTake s.data.toList at_ err n).1)) (dTake s.data.toList at_ err n).2) := by
  by_cases he : err = 0
  · subst he
    by_cases h0 : n < 0
    · rw [dTake_short (.inl h0)]; exact cut_low n h h0
    · by_cases h1 : (s.size : Int) - at_ < n
      · rw [dTake_short (.inr h1)]; exact cut_far n h hs ha h1
      · rw [dTake_ok (by omega) (by rw [size_len]; omega)]
        have := cut_ok n.toNat h hs ha (by omega)
        rw [show ((n.toNat : Nat) : Int) = n by omega] at this
        exact this
  · rw [dTake_bad he]
    exact (cut_bad n h (by simpa using he)).mono fun e w' ⟨h1, h2⟩ => by subst h2; exact ⟨h1, h, grown_refl _ _⟩
theorem clone_any (s : ByteArray) (w : World) (hs : Hid (s.size ≤ 281474976710656)) :
    Calls Tryd.prog 44 #[.string s] w fun e w' => e = .returned (.string s) ∧ Below w.heap.size w w' := by
  go_enter Tryd.func44, Tryd.ntmps44
  go_wp2_with (go_at_call 54; with_reducible refine (Tryd.stringslite_Clone s _ hs.out).mono ?_; rintro e w1 ⟨rfl, hb⟩)
  go_ret
  exact ⟨rfl, hb⟩
def GaJ (s : ByteArray) (w : World) (a' : Act) (w' : World) : Prop :=
  w = w' ∧ ∃ (i n : Nat) (u5 u6 u7 u8 u9 u10 u11 u12 u13 u14 u15 u16 u17 u18 : Value), a' = { tmps := #[.string s, undef, .int .u64 0, .int .u64 n, .int .i64 i, u5, u6, u7, u8, u9, u10, u11, u12, u13, u14, u15, u16, u17, u18], defers := [] } ∧ i < s.size ∧ n = big (s.data.toList.drop i)
def gaMu (a' : Act) : Nat := (intOf (a'.tmps.getD 4 undef)).toNat
theorem or_low {n : Nat} (c : UInt8) (h : n < 72057594037927936) : bits .or .u64 ((n : Int) * 256) (c.toNat : Int) = ((c.toNat + 256 * n : Nat) : Int) := by
  have hc := c.toNat_lt
  have e : (n : Int) * 256 = ((2 ^ 8 * n : Nat) : Int) := by omega
  rw [e, u64_or_nat _ _ (by omega) (by omega), ← Nat.two_pow_add_eq_or_of_lt hc]
  omega
theorem wrap_byte (c : UInt8) : IntKind.u64.wrap (c.toNat : Int) = (c.toNat : Int) := by
  have hc := c.toNat_lt
  rw [IntKind.wrap_u64]; omega
theorem or_low8 {n : Nat} (c : UInt8) (h : n < 72057594037927936) : bits .or .u64 ((n : Int) * 256) (IntKind.u64.wrap (c.toNat : Int)) = ((c.toNat + 256 * n : Nat) : Int) := by rw [wrap_byte, or_low c h]
theorem or_low0 (c : UInt8) : bits .or .u64 0 (IntKind.u64.wrap (c.toNat : Int)) = ((c.toNat + 256 * 0 : Nat) : Int) := or_low8 (n := 0) c (by decide)
theorem big_drop_lt {s : ByteArray} {i : Nat} (hs : s.size ≤ 8) (hi : 1 ≤ i) : big (s.data.toList.drop i) < 72057594037927936 := by
  have h := big_lt (s.data.toList.drop i)
  have hl : (s.data.toList.drop i).length ≤ 7 := by rw [List.length_drop, size_len]; omega
  exact Nat.lt_of_lt_of_le h (Nat.le_trans (Nat.pow_le_pow_right (by decide) hl) (by decide))
theorem big_drop (s : ByteArray) (i : Nat) (h : i < s.size) : big (s.data.toList.drop i) = s[i].toNat + 256 * big (s.data.toList.drop (i + 1)) := by
  rw [drop_at s i h, big_cons]
theorem gaJ_next {s : ByteArray} {w : World} {i n : Nat} {x y : Int} (h : i < s.size) (hn : Hid (n = big (s.data.toList.drop (i + 1)))) (hx : x = ((s[i].toNat + 256 * n : Nat) : Int)) (hy : y = (i : Int)) (u5 u6 u7 u8 u9 u10 u11 u12 u13 u14 u15 u16 u17 u18 : Value) :
    GaJ s w { tmps := #[.string s, undef, .int .u64 0, .int .u64 x, .int .i64 y, u5, u6, u7, u8, u9, u10, u11, u12, u13, u14, u15, u16, u17, u18], defers := [] } w := by
  refine ⟨rfl, i, s[i].toNat + 256 * n, u5, u6, u7, u8, u9, u10, u11, u12, u13, u14, u15, u16, u17, u18, by rw [hx, hy], h, ?_⟩
  rw [big_drop s i h, ← hn.out]
set_option maxRecDepth 100000 in
set_option maxHeartbeats 1000000 in
theorem gather_any (s : ByteArray) (hs : s.size ≤ 8) (w : World) :
    Calls Tryd.prog 57 #[.string s] w fun e w' => e = .returned (.int .u64 (big s.data.toList)) ∧ w = w' := by
  go_enter Tryd.func57, Tryd.ntmps57
  go_wp2
  refine wp_scope_jumps 0 (GaJ s w) (fun a' _ => gaMu a') rfl ?_ ?_
  · by_cases h0 : s.size = 0
    · have h0' : ((s.size : Int) == 0) = true := by simp [h0]
      have H0 := Lib.hid h0
      clear h0
      go_wp2
      go_step3
      go_wp2
      simp only [Exit.jump]
      go_ret
      exact ⟨ret_int (by rw [show s.data.toList = [] from List.eq_nil_of_length_eq_zero H0.out, big_nil]; rfl), rfl⟩
    · obtain ⟨j, hj⟩ : ∃ j, s.size = j + 1 := ⟨s.size - 1, by omega⟩
      have hj' : j < s.size := by omega
      have e : ((s.size : Int) - 1) = (j : Int) := by omega
      have HJ := Lib.hid hj
      clear hj
      go_wp2
      go_step3
      go_wp2
      go_step3
      refine ⟨rfl, gaJ_next (n := 0) hj' ?_ (or_low0 _) rfl _ _ _ _ _ _ _ _ _ _ _ _ _ _⟩
      show 0 = _
      rw [← HJ.out, drop_all, big_nil]
  · rintro a' w' ⟨rfl, i, n, u5, u6, u7, u8, u9, u10, u11, u12, u13, u14, u15, u16, u17, u18, rfl, hi, hn⟩
    have HN := Lib.hid hn
    clear hn
    by_cases h0 : i = 0
    · subst h0
      go_wp2
      simp only [Exit.jump]
      go_ret
      exact ⟨ret_int (by rw [HN.out]; rfl), rfl⟩
    · obtain ⟨j, rfl⟩ : ∃ j, i = j + 1 := ⟨i - 1, by omega⟩
      have hlt : n < 72057594037927936 := by rw [HN.out]; exact big_drop_lt hs (by omega)
      have hj' : j < s.size := by omega
      go_wp2
      go_step3
      refine ⟨rfl, gaJ_next hj' HN (or_low8 _ hlt) rfl _ _ _ _ _ _ _ _ _ _ _ _ _ _, ?_⟩
      simp [gaMu, intOf]
theorem gather_at {l : List UInt8} {s : ByteArray} (h : s = bs l) (hl : l.length ≤ 8) (w : World) :
    Calls Tryd.prog 57 #[.string s] w fun e w' => e = .returned (.int .u64 (big l)) ∧ w = w' := by
  subst h; exact gather_any (bs l) (by rw [bs_size]; exact hl) w
theorem dTake_small {l : List UInt8} {at_ : Nat} {err n : Int} (h : n ≤ 8) : (dTake l at_ err n).1.length ≤ 8 := by
  by_cases he : err = 0
  · subst he
    by_cases h2 : n < 0 ∨ (l.length : Int) - at_ < n
    · rw [dTake_short h2]; simp
    · rw [dTake_ok (by omega) (by omega)]; simp; omega
  · rw [dTake_bad he]; simp
theorem rwide_any {w : World} {a : Nat} {s : ByteArray} {at_ : Nat} {err : Int} (h : RdAt 93 w a s at_ err) (hs : s.size ≤ 1000000) (ha : at_ ≤ s.size) :
    Calls Tryd.prog 48 #[.pointer (some ⟨a, 0, none⟩)] w (RdPost 93 w a s (.int .u64 (big (dTake s.data.toList at_ err 8).1)) (dTake s.data.toList at_ err 8).2) := by
  have hl := dTake_small (l := s.data.toList) (at_ := at_) (err := err) (n := 8) (by omega)
  have HC := cut_any 8 h hs ha
  generalize dTake s.data.toList at_ err 8 = r at hl HC ⊢
  obtain ⟨l2, at2, err2⟩ := r
  have HC := Lib.hid HC
  clear h
  go_enter Tryd.func48, Tryd.ntmps48
  go_wp2_with (first
    | (go_at_call 58; refine HC.out.mono ?_; rintro e w1 ⟨rfl, h1, g1⟩; have H1 := Lib.hid h1; clear h1)
    | (go_at_call 57; refine (gather_at (l := l2) rfl hl _).mono ?_; rintro e w' ⟨rfl, rfl⟩))
  go_ret
  exact ⟨rfl, H1.out, g1⟩
end Go.Proofs.YtelbhegkaihjhaaDoor
