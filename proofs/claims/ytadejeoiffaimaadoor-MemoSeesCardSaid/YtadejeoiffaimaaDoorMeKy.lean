/-
  Several texts in one. Conditions: as each theorem states.
-/
import Derived.Test.YtadejeoiffaimaaDoorViMath
import Derived.Test.YtadejeoiffaimaaDoorRows
import Derived.Test.YtadejeoiffaimaaDoorShelf
import Derived.WalkKit
import Derived.ProofKit
import Derived.OpenShut
import Derived.Lib.Hide
import Derived.Lib.BufSteps
import Derived.Lib.SmallJoins
import Derived.Lib.Strings
import Derived.Laws.IdiomStrings
import Derived.Laws.Rows
import Derived.Maps.OwnSet
import Derived.Maps.AppendAt
import Derived.Outline
import Derived.WalkMore
import Derived.ScopeJumps
import Derived.Deep.QuietTactic
import Derived.BigQuiet
import Derived.BigRegion
import Derived.StillTailTactics
import Derived.Deep.RegionHeld3
import Derived.Lib.Replace
import Derived.Laws.Cover1
import Derived.Test.YtadejeoiffaimaaDoorLaw
import Derived.Laws.StructEq
import Derived.Deep.AppendLies
namespace Go.Proofs.YtadejeoiffaimaaDoor.Vi

def dig : List Nat → Nat
  | [] => 0
  | b :: l => b + 256 * dig l
theorem and_step (a m x y : Nat) (ha : a < 256) (hm : m < 256) : (a + 256 * x) &&& (m + 256 * y) = (a &&& m) + 256 * (x &&& y) := by
  have hk : a &&& m < 256 := Nat.lt_of_le_of_lt Nat.and_le_left ha
  have h1 : ((a + 256 * x) &&& (m + 256 * y)) % 256 = a &&& m := by
    have := Nat.and_mod_two_pow (a := a + 256 * x) (b := m + 256 * y) (n := 8)
    simp only [show (2 : Nat) ^ 8 = 256 from rfl] at this
    rw [this, show (a + 256 * x) % 256 = a by omega, show (m + 256 * y) % 256 = m by omega]
  have h2 : ((a + 256 * x) &&& (m + 256 * y)) / 256 = x &&& y := by
    have := Nat.and_div_two_pow (a := a + 256 * x) (b := m + 256 * y) (n := 8)
    simp only [show (2 : Nat) ^ 8 = 256 from rfl] at this
    rw [this, show (a + 256 * x) / 256 = x by omega, show (m + 256 * y) / 256 = y by omega]
  omega
theorem or_step (a m x y : Nat) (ha : a < 256) (hm : m < 256) : (a + 256 * x) ||| (m + 256 * y) = (a ||| m) + 256 * (x ||| y) := by
  have hk : a ||| m < 256 := Nat.or_lt_two_pow (n := 8) ha hm
  have h1 : ((a + 256 * x) ||| (m + 256 * y)) % 256 = a ||| m := by
    have := Nat.or_mod_two_pow (a := a + 256 * x) (b := m + 256 * y) (n := 8)
    simp only [show (2 : Nat) ^ 8 = 256 from rfl] at this
    rw [this, show (a + 256 * x) % 256 = a by omega, show (m + 256 * y) % 256 = m by omega]
  have h2 : ((a + 256 * x) ||| (m + 256 * y)) / 256 = x ||| y := by
    have := Nat.or_div_two_pow (a := a + 256 * x) (b := m + 256 * y) (n := 8)
    simp only [show (2 : Nat) ^ 8 = 256 from rfl] at this
    rw [this, show (a + 256 * x) / 256 = x by omega, show (m + 256 * y) / 256 = y by omega]
  omega
theorem and_all (b : Nat) (h : b < 256) : b &&& 255 = b := by
  have := Nat.and_two_pow_sub_one_eq_mod b 8
  simp only [show (2 : Nat) ^ 8 - 1 = 255 from rfl, show (2 : Nat) ^ 8 = 256 from rfl] at this
  rw [this]; omega
/-- a number's eight digits turned round, in the three steps of the text -/
def rev8 (n : Nat) : Nat := big (little 8 n).reverse
theorem swap1 (a b c d e f g h : Nat) (ha : a < 256) (hb : b < 256) (hc : c < 256) (hd : d < 256) (he : e < 256) (hf : f < 256) (hg : g < 256) (hh : h < 256) :
    (dig [a, b, c, d, e, f, g, h] / 256 &&& 71777214294589695) ||| ((dig [a, b, c, d, e, f, g, h] &&& 71777214294589695) * 256 % 18446744073709551616) = dig [b, a, d, c, f, e, h, g] := by
  have m : (71777214294589695 : Nat) = dig [255, 0, 255, 0, 255, 0, 255, 0] := by decide
  have e1 : dig [a, b, c, d, e, f, g, h] / 256 = dig [b, c, d, e, f, g, h, 0] := by simp only [dig]; omega
  rw [m, e1]
  have e2 : dig [b, c, d, e, f, g, h, 0] &&& dig [255, 0, 255, 0, 255, 0, 255, 0] = dig [b, 0, d, 0, f, 0, h, 0] := by
    simp only [dig]
    rw [and_step _ _ _ _ hb (by omega), and_step _ _ _ _ hc (by omega), and_step _ _ _ _ hd (by omega), and_step _ _ _ _ he (by omega), and_step _ _ _ _ hf (by omega), and_step _ _ _ _ hg (by omega), and_step _ _ _ _ hh (by omega)]
    simp only [and_all _ hb, and_all _ hd, and_all _ hf, and_all _ hh, Nat.and_zero, Nat.zero_and, Nat.mul_zero, Nat.add_zero, Nat.zero_add] <;> omega
  have e3 : dig [a, b, c, d, e, f, g, h] &&& dig [255, 0, 255, 0, 255, 0, 255, 0] = dig [a, 0, c, 0, e, 0, g, 0] := by
    simp only [dig]
    rw [and_step _ _ _ _ ha (by omega), and_step _ _ _ _ hb (by omega), and_step _ _ _ _ hc (by omega), and_step _ _ _ _ hd (by omega), and_step _ _ _ _ he (by omega), and_step _ _ _ _ hf (by omega), and_step _ _ _ _ hg (by omega)]
    simp only [and_all _ ha, and_all _ hc, and_all _ he, and_all _ hg, Nat.and_zero, Nat.zero_and, Nat.mul_zero, Nat.add_zero, Nat.zero_add] <;> omega
  rw [e2, e3]
  have e4 : dig [a, 0, c, 0, e, 0, g, 0] * 256 % 18446744073709551616 = dig [0, a, 0, c, 0, e, 0, g] := by simp only [dig]; omega
  rw [e4]
  simp only [dig]
  rw [or_step _ _ _ _ hb (by omega), or_step _ _ _ _ (by omega) ha, or_step _ _ _ _ hd (by omega), or_step _ _ _ _ (by omega) hc, or_step _ _ _ _ hf (by omega), or_step _ _ _ _ (by omega) he, or_step _ _ _ _ hh (by omega)]
  simp only [Nat.or_zero, Nat.zero_or, Nat.mul_zero, Nat.add_zero]
theorem swap2 (a b c d e f g h : Nat) (ha : a < 256) (hb : b < 256) (hc : c < 256) (hd : d < 256) (he : e < 256) (hf : f < 256) (hg : g < 256) (hh : h < 256) :
    (dig [a, b, c, d, e, f, g, h] / 65536 &&& 281470681808895) ||| ((dig [a, b, c, d, e, f, g, h] &&& 281470681808895) * 65536 % 18446744073709551616) = dig [c, d, a, b, g, h, e, f] := by
  have m : (281470681808895 : Nat) = dig [255, 255, 0, 0, 255, 255, 0, 0] := by decide
  have e1 : dig [a, b, c, d, e, f, g, h] / 65536 = dig [c, d, e, f, g, h, 0, 0] := by simp only [dig]; omega
  rw [m, e1]
  have e2 : dig [c, d, e, f, g, h, 0, 0] &&& dig [255, 255, 0, 0, 255, 255, 0, 0] = dig [c, d, 0, 0, g, h, 0, 0] := by
    simp only [dig]
    rw [and_step _ _ _ _ hc (by omega), and_step _ _ _ _ hd (by omega), and_step _ _ _ _ he (by omega), and_step _ _ _ _ hf (by omega), and_step _ _ _ _ hg (by omega), and_step _ _ _ _ hh (by omega)]
    simp only [and_all _ hc, and_all _ hd, and_all _ hg, and_all _ hh, Nat.and_zero, Nat.zero_and, Nat.mul_zero, Nat.add_zero, Nat.zero_add] <;> omega
  have e3 : dig [a, b, c, d, e, f, g, h] &&& dig [255, 255, 0, 0, 255, 255, 0, 0] = dig [a, b, 0, 0, e, f, 0, 0] := by
    simp only [dig]
    rw [and_step _ _ _ _ ha (by omega), and_step _ _ _ _ hb (by omega), and_step _ _ _ _ hc (by omega), and_step _ _ _ _ hd (by omega), and_step _ _ _ _ he (by omega), and_step _ _ _ _ hf (by omega)]
    simp only [and_all _ ha, and_all _ hb, and_all _ he, and_all _ hf, Nat.and_zero, Nat.zero_and, Nat.mul_zero, Nat.add_zero, Nat.zero_add] <;> omega
  rw [e2, e3]
  have e4 : dig [a, b, 0, 0, e, f, 0, 0] * 65536 % 18446744073709551616 = dig [0, 0, a, b, 0, 0, e, f] := by simp only [dig]; omega
  rw [e4]
  simp only [dig]
  rw [or_step _ _ _ _ hc (by omega), or_step _ _ _ _ hd (by omega), or_step _ _ _ _ (by omega) ha, or_step _ _ _ _ (by omega) hb, or_step _ _ _ _ hg (by omega), or_step _ _ _ _ hh (by omega)]
  simp only [Nat.or_zero, Nat.zero_or, Nat.mul_zero, Nat.add_zero]
theorem swap3 (a b c d e f g h : Nat) (ha : a < 256) (hb : b < 256) (hc : c < 256) (hd : d < 256) (he : e < 256) (hf : f < 256) (hg : g < 256) (hh : h < 256) :
    (dig [a, b, c, d, e, f, g, h] / 4294967296) ||| (dig [a, b, c, d, e, f, g, h] * 4294967296 % 18446744073709551616) = dig [e, f, g, h, a, b, c, d] := by
  have e1 : dig [a, b, c, d, e, f, g, h] / 4294967296 = dig [e, f, g, h, 0, 0, 0, 0] := by simp only [dig]; omega
  have e4 : dig [a, b, c, d, e, f, g, h] * 4294967296 % 18446744073709551616 = dig [0, 0, 0, 0, a, b, c, d] := by simp only [dig]; omega
  rw [e1, e4]
  simp only [dig]
  rw [or_step _ _ _ _ he (by omega), or_step _ _ _ _ hf (by omega), or_step _ _ _ _ hg (by omega), or_step _ _ _ _ hh (by omega)]
  simp only [Nat.or_zero, Nat.zero_or, Nat.mul_zero, Nat.add_zero]
theorem big_dig (l : List UInt8) : big l = dig (l.map UInt8.toNat) := by
  induction l with
  | nil => rw [big_nil]; rfl
  | cons c l ih => rw [big_cons, ih]; rfl
theorem rev8_lt (n : Nat) : rev8 n < 18446744073709551616 := by
  have := big_lt (little 8 n).reverse
  rw [List.length_reverse, little_len] at this
  exact this
theorem little_rev8 (n : Nat) : little 8 (rev8 n) = (little 8 n).reverse := by
  have := little_big (little 8 n).reverse
  rw [List.length_reverse, little_len] at this
  exact this
theorem rev8_rev8 {n : Nat} (h : n < 18446744073709551616) : rev8 (rev8 n) = n := by
  unfold rev8
  have h2 := little_big (little 8 n).reverse
  rw [List.length_reverse, little_len] at h2
  rw [h2, List.reverse_reverse, big_little 8 n h]
/-- what the text of the library reckons -/
def revText (n : Nat) : Nat :=
  let x := (n / 256 &&& 71777214294589695) ||| ((n &&& 71777214294589695) * 256 % 18446744073709551616)
  let y := (x / 65536 &&& 281470681808895) ||| ((x &&& 281470681808895) * 65536 % 18446744073709551616)
  (y / 4294967296) ||| (y * 4294967296 % 18446744073709551616)
theorem revText_eq {n : Nat} (h : n < 18446744073709551616) : revText n = rev8 n := by
  obtain ⟨l, hl⟩ : ∃ l, l = little 8 n := ⟨_, rfl⟩
  have hlen : l.length = 8 := by rw [hl]; exact little_len 8 n
  have hn : n = big l := by rw [hl, big_little 8 n h]
  unfold rev8
  rw [← hl, big_dig]
  match l, hlen with
  | [a, b, c, d, e, f, g, k], _ =>
    rw [big_dig] at hn
    subst hn
    have ha := a.toNat_lt; have hb := b.toNat_lt; have hc := c.toNat_lt; have hd := d.toNat_lt
    have he := e.toNat_lt; have hf := f.toNat_lt; have hg := g.toNat_lt; have hk := k.toNat_lt
    unfold revText
    simp only [List.map_cons, List.map_nil]
    rw [swap1 _ _ _ _ _ _ _ _ ha hb hc hd he hf hg hk]
    rw [swap2 _ _ _ _ _ _ _ _ hb ha hd hc hf he hk hg]
    rw [swap3 _ _ _ _ _ _ _ _ hd hc hb ha hk hg hf he]
    rfl
attribute [irreducible] rev8
end Go.Proofs.YtadejeoiffaimaaDoor.Vi
namespace Go.Proofs.YtadejeoiffaimaaDoor
open Go.RowKit
open Vi

def bs (l : List UInt8) : ByteArray := ⟨l.toArray⟩
theorem bs_toList (l : List UInt8) : (bs l).data.toList = l := rfl
theorem bs_of (s : ByteArray) : bs s.data.toList = s := by cases s; rfl
theorem bs_size (l : List UInt8) : (bs l).size = l.length := by simp [bs, ByteArray.size]
theorem bs_append (a b : List UInt8) : bs a ++ bs b = bs (a ++ b) := by simp only [bs]; rw [ByteArray.mk_append_mk]
theorem ret_str {a b : List UInt8} (h : a = b) : Ending.returned (.string (bs a)) = .returned (.string (bs b)) := by rw [h]
theorem ret_int {k : IntKind} {a b : Int} (h : a = b) : Ending.returned (.int k a) = .returned (.int k b) := by rw [h]
theorem val_int {k : IntKind} {a b : Int} (h : a = b) : Value.int k a = .int k b := by rw [h]
def byteCells (l : List UInt8) : List Value := l.map fun b => Value.int .u8 (b.toNat : Int)
theorem byteCells_snoc (l : List UInt8) (c : UInt8) : byteCells l ++ [.int .u8 (c.toNat : Int)] = byteCells (l ++ [c]) := by simp [byteCells]
theorem byteCells_len (l : List UInt8) : (byteCells l).length = l.length := by simp [byteCells]
theorem info5 : (Tryd.prog.info? 5).map (fun i => (i.zero, i.size, i.bytes)) = some (some (.int .u8 0), 1, 1) := by kernel_rfl
theorem own_string {B : Nat} {v : Value} {n : Nat} {l : List UInt8} {W0 w : World} (h : Lib.OwnBuf B 5 v n (byteCells l) W0 w) :
    (convert 100 9 v).run Tryd.prog w = .ok (.string (bs l)) w := by
  obtain ⟨⟨hlen, hrow⟩, _, _⟩ := h
  rw [byteCells_len] at hlen
  rcases hrow with ⟨rfl, rfl⟩ | ⟨g, cap, cur, fz, rfl, hb, hg, _, _, _, _, htake⟩
  · have : l = [] := List.eq_nil_of_length_eq_zero (by omega)
    subst this
    exact run_convert_bytes_nil w _ 5 Tryd.underlying100 Tryd.underlying5 0 0 _ Tryd.underlying9
  · have hn : n = l.length := by omega
    subst hn
    refine run_convert_bytes_back w _ _ 5 ⟨g, 0, none⟩ cap l Tryd.underlying100 Tryd.underlying5 Tryd.underlying9 ?_
    intro j hj
    have hadd : (⟨g, 0, none⟩ : Addr).add j = ⟨g, j, none⟩ := by unfold Addr.add; split <;> simp_all
    rw [hadd, cell_of_row w g j cur _ fz hg]
    have h2 : (cur.toList.take (l.length * 1))[j]? = some (.int .u8 (l[j].toNat : Int)) := by
      rw [htake]; simp [byteCells, hj]
    rw [List.getElem?_take] at h2
    split at h2
    · simpa using h2
    · cases h2
theorem one_byte (W : World) (c : Int) : (convert 100 9 (.slice (some ⟨W.heap.size, 0, none⟩) 1 1)).run Tryd.prog (W.alloc (.cells #[.int .u8 c] 5)) =
    .ok (.string (bs [UInt8.ofNat c.toNat])) (W.alloc (.cells #[.int .u8 c] 5)) := by
  rw [run_convert_bytes_string _ _ _ 5 _ _ _ Tryd.underlying100 Tryd.underlying5 Tryd.underlying9]
  have hl := run_loadCells_list (P := Tryd.prog) (W.alloc (.cells #[.int .u8 c] 5)) ⟨W.heap.size, 0, none⟩ ([c].map (Value.int .u8)) (fun j v hj => by
    match j, hj with
    | 0, hj => simp at hj; subst hj; simp [Addr.add])
  rw [run_bytesToString _ _ 1 1 [c] hl]
  rfl
def LayJ (n k : Nat) (w : World) (a' : Act) (w' : World) : Prop :=
  ∃ (m : Nat) (l : List UInt8) (v u6 u7 u8 u9 u10 u11 u12 u13 u14 u15 u16 u17 u18 : Value), l ++ little (k - l.length) m = little k n ∧ m < 18446744073709551616 ∧ l.length < k ∧ Lib.OwnBuf w.heap.size 5 v l.length (byteCells l) w w' ∧
    a' = { tmps := #[.int .u64 m, .int .i64 k, undef, undef, .string ⟨#[]⟩, v, u6, u7, u8, u9, u10, u11, u12, u13, u14, u15, u16, u17, u18, undef, undef], defers := [] }
def sliceLen : Value → Nat
  | .slice _ n _ => n
  | _ => 0
def layMu (a' : Act) : Nat := 8 - sliceLen (a'.tmps.getD 5 undef)
theorem own_len {B : Nat} {e : TypeId} {v : Value} {n : Nat} {xs : List Value} {W0 w : World} (h : Lib.OwnBuf B e v n xs W0 w) : sliceLen v = n := by
  rcases h.1.2 with ⟨rfl, h0⟩ | ⟨g, cap, _, _, rfl, _⟩
  · exact h0.symm
  · rfl
theorem own_form {B : Nat} {e : TypeId} {v : Value} {n : Nat} {xs : List Value} {W0 w : World} (h : Lib.OwnBuf B e v (n + 1) xs W0 w) : ∃ g cap, v = .slice (some ⟨g, 0, none⟩) (n + 1) cap := by
  rcases h.1.2 with ⟨_, h0⟩ | ⟨g, cap, _, _, hv, _⟩
  · omega
  · exact ⟨g, cap, hv⟩
theorem lay_step {n m k : Nat} {l : List UInt8} {w w2 : World} {v2 : Value} (h : Hid (l ++ little (k - l.length) m = little k n)) (hlt : l.length < k)
    (hb2 : Lib.OwnBuf w.heap.size 5 v2 (l.length + 1) (byteCells l ++ [.int .u8 ((m : Int) % 256)]) w w2) :
    Lib.OwnBuf w.heap.size 5 v2 (l.length + 1) (byteCells (l ++ [UInt8.ofNat (m % 256)])) w w2 ∧ l ++ [UInt8.ofNat (m % 256)] ++ little (k - (l.length + 1)) (m / 256) = little k n := by
  have e2 : (m : Int) % 256 = (((UInt8.ofNat (m % 256)).toNat : Nat) : Int) := by rw [toNat_of (by omega)]; omega
  rw [e2, byteCells_snoc] at hb2
  refine ⟨hb2, ?_⟩
  rw [← h.out, show k - l.length = (k - (l.length + 1)) + 1 by omega, little_succ]
  simp
theorem layJ_next {n m k : Nat} {l : List UInt8} {w w2 : World} {v2 : Value} (h : Hid (l ++ little (k - l.length) m = little k n)) (hlt : l.length + 1 < k) (hm : m < 18446744073709551616)
    (hb2 : Lib.OwnBuf w.heap.size 5 v2 (l.length + 1) (byteCells l ++ [.int .u8 ((m : Int) % 256)]) w w2) (u6 u7 u8 u9 u10 u11 u12 u13 u14 u15 u16 u17 u18 : Value) :
    LayJ n k w { tmps := #[.int .u64 ((m : Int) / 256), .int .i64 k, undef, undef, .string ⟨#[]⟩, v2, u6, u7, u8, u9, u10, u11, u12, u13, u14, u15, u16, u17, u18, undef, undef], defers := [] } w2 := by
  obtain ⟨h1, h2⟩ := lay_step h (by omega) hb2
  refine ⟨m / 256, l ++ [UInt8.ofNat (m % 256)], v2, u6, u7, u8, u9, u10, u11, u12, u13, u14, u15, u16, u17, u18, ?_, by omega, by simpa using hlt, ?_, ?_⟩
  · rw [List.length_append]; exact h2
  · rw [List.length_append]; exact h1
  · rw [show (m : Int) / 256 = ((m / 256 : Nat) : Int) by omega]
theorem lay_end {n m k : Nat} {l : List UInt8} {w w2 : World} {v2 : Value} (h : Hid (l ++ little (k - l.length) m = little k n)) (hlt : l.length + 1 = k)
    (hb2 : Lib.OwnBuf w.heap.size 5 v2 (l.length + 1) (byteCells l ++ [.int .u8 ((m : Int) % 256)]) w w2) :
    (convert 100 9 v2).run Tryd.prog w2 = .ok (.string (bs (little k n))) w2 := by
  obtain ⟨h1, h2⟩ := lay_step h (by omega) hb2
  rw [hlt, Nat.sub_self, little_zero, List.append_nil] at h2
  rw [← h2]
  exact own_string h1
set_option maxHeartbeats 1000000 in
set_option maxRecDepth 100000 in
theorem lay_any (n k : Nat) (hn : n < 18446744073709551616) (hk0 : 1 < k) (hk : k ≤ 8) (w : World) :
    Calls Tryd.prog 71 #[.int .u64 n, .int .i64 k] w fun e w' => e = .returned (.string (bs (little k n))) ∧ Below w.heap.size w w' := by
  obtain ⟨i0, hi0, hz0, hz1, hz2⟩ := info_parts info5
  go_enter Tryd.func71, Tryd.ntmps71
  go_wp2
  refine wp_scope_jumps 0 (LayJ n k w) (fun a' _ => layMu a') rfl ?_ ?_
  · go_wp2_with (with_reducible refine wpList_make_own _ rfl _ _ 100 rfl w.heap.size 5 i0 (.int .u8 0) 1 Tryd.underlying100 hi0 hz0 hz1 .i64 .i64 k k rfl rfl rfl (by rw [hz2]; omega) (by unfold maxLen; omega) (Nat.le_refl _) ?_)
    intro w1 hown hg
    have hb : Lib.OwnBuf w.heap.size 5 (.slice (some ⟨w.heap.size, 0, none⟩) 0 k) ([] : List UInt8).length (byteCells []) w w1 := ⟨World.ownsRowF_of hown, (Below.refl _ _).grown hg (Nat.le_refl _) (by simp), hg.size⟩
    clear hown hg
    go_wp2
    go_step3
    go_wp2_with (first
        | (at_builtin
           refine Lib.wpList_append_byte rfl (.tmp 8) (.tmp 11) 100 rfl w.heap.size 5 i0 Tryd.underlying100 hi0 hz0 hz1 hz2 _ _ _ rfl w _ _ hb rfl (by decide) ?_
           intro v2 w2 hb2
           obtain ⟨g, cap, rfl⟩ := own_form hb2
           clear hb))
    go_step3
    exact ⟨rfl, layJ_next (l := []) rfl hk0 hn hb2 _ _ _ _ _ _ _ _ _ _ _ _ _⟩
  · rintro a' w1 ⟨m, l, v, u6, u7, u8, u9, u10, u11, u12, u13, u14, u15, u16, u17, u18, hl, hm, hlt, hb, rfl⟩
    have HL := Lib.hid hl
    clear hl
    have HV := Lib.hid (own_len hb)
    by_cases hs : l.length + 1 < k
    · go_wp2_with (first
        | (at_builtin
           refine Lib.wpList_append_byte rfl (.tmp 8) (.tmp 11) 100 rfl w.heap.size 5 i0 Tryd.underlying100 hi0 hz0 hz1 hz2 _ _ _ rfl w _ _ hb rfl (by omega) ?_
           intro v2 w2 hb2
           obtain ⟨g, cap, rfl⟩ := own_form hb2
           clear hb))
      go_step3
      refine ⟨rfl, layJ_next HL hs hm hb2 _ _ _ _ _ _ _ _ _ _ _ _ _, ?_⟩
      show 8 - (l.length + 1) < 8 - sliceLen v
      rw [HV.out]; omega
    · go_wp2_with (first
        | (at_builtin
           refine Lib.wpList_append_byte rfl (.tmp 8) (.tmp 11) 100 rfl w.heap.size 5 i0 Tryd.underlying100 hi0 hz0 hz1 hz2 _ _ _ rfl w _ _ hb rfl (by omega) ?_
           intro v2 w2 hb2
           have hcv := lay_end HL (by omega) hb2
           obtain ⟨g, cap, rfl⟩ := own_form hb2
           clear hb))
      simp only [Exit.jump]
      go_ret
      exact ⟨rfl, hb2.2.1⟩
theorem lay_at {x y : Int} {n k : Nat} (hx : x = n) (hy : y = k) (hn : n < 18446744073709551616) (hk0 : 1 < k) (hk : k ≤ 8) (w : World) :
    Calls Tryd.prog 71 #[.int .u64 x, .int .i64 y] w fun e w' => e = .returned (.string (bs (little k n))) ∧ Below w.heap.size w w' := by
  subst hx hy; exact lay_any n k hn hk0 hk w
theorem wide_any (n : Nat) (hn : n < 18446744073709551616) (w : World) :
    Calls Tryd.prog 61 #[.int .u64 n] w fun e w' => e = .returned (.string (bs (little 8 n))) ∧ Below w.heap.size w w' := by
  go_enter Tryd.func61, Tryd.ntmps61
  go_wp2_with (go_at_call 71; refine (lay_at (n := n) (k := 8) (by omega) (by omega) (by omega) (by omega) (by omega) _).mono ?_; rintro e w' ⟨rfl, hb⟩)
  go_ret
  exact ⟨rfl, hb⟩
def RdAt (t : TypeId) (w : World) (a : Nat) (s : ByteArray) (at_ : Nat) (err : Int) : Prop :=
  w.heap[a]? = some (.cells #[.string s, .int .i64 at_, .int .i64 err] t (0, 0))
theorem cell_in {w : World} {g : Nat} {c : Array Value} {t : TypeId} (h : w.heap[g]? = some (.cells c t (0, 0))) (j : Nat) (v : Value) (hj : c[j]? = some v) :
    w.cell? ⟨g, j, none⟩ = some v := by rw [cell_of_row w g j c t (0, 0) h]; exact hj
theorem free_in {w : World} {g : Nat} {c : Array Value} {t : TypeId} (h : w.heap[g]? = some (.cells c t (0, 0))) (j : Nat) : w.frozen? ⟨g, j, none⟩ = false := by
  simp [World.frozen?, h]
theorem heap_set {w : World} {g : Nat} {c : Array Value} {t : TypeId} {fr : Nat × Nat} (h : w.heap[g]? = some (.cells c t fr)) (j : Nat) (v : Value) :
    (w.setCell ⟨g, j, none⟩ v).heap[g]? = some (.cells (c.setIfInBounds j v) t fr) := by
  simp only [World.setCell, Array.getElem?_modify, if_true, h]
  rfl
theorem grown_set (w : World) (g j : Nat) (v : Value) : w.grownBy (w.setCell ⟨g, j, none⟩ v) (some g) :=
  ⟨rfl, rfl, rfl, by simp [World.setCell], fun k _ hk => Below.heap_setCell w ⟨g, j, none⟩ v k (fun e => hk (by rw [e]))⟩
theorem grown_drewN (w : World) (n : Nat) (row : Option Nat) : w.grownBy (w.drewN n) row := ⟨rfl, rfl, rfl, Nat.le_refl _, fun _ _ _ => rfl⟩
theorem grown_below {w w' : World} (h : Below w.heap.size w w') (row : Option Nat) : w.grownBy w' row := ⟨h.os, h.tape, h.output, h.size, fun i hi _ => h.block i hi⟩
section
variable {t : TypeId} {w : World} {a : Nat} {s : ByteArray} {at_ : Nat} {err : Int}
theorem rd0 (h : RdAt t w a s at_ err) : w.cell? ⟨a, 0, none⟩ = some (.string s) := cell_in h 0 _ rfl
theorem rd1 (h : RdAt t w a s at_ err) : w.cell? ⟨a, 1, none⟩ = some (.int .i64 at_) := cell_in h 1 _ rfl
theorem rd2 (h : RdAt t w a s at_ err) : w.cell? ⟨a, 2, none⟩ = some (.int .i64 err) := cell_in h 2 _ rfl
theorem rd_lt (h : RdAt t w a s at_ err) : a < w.heap.size := (Array.getElem?_eq_some_iff.1 h).1
theorem rd_drewN (h : RdAt t w a s at_ err) (n : Nat) : RdAt t (w.drewN n) a s at_ err := h
theorem rd_kept {w' : World} {row : Option Nat} (h : RdAt t w a s at_ err) (hg : w.grownBy w' row) (hne : some a ≠ row) : RdAt t w' a s at_ err := by
  unfold RdAt; rw [hg.block a (rd_lt h) hne]; exact h
end
theorem over_any (s : ByteArray) (w : World) :
    Calls Tryd.prog 65 #[.string s] w fun e w' => e = .returned (.pointer (some ⟨w.heap.size, 0, none⟩)) ∧ RdAt 134 w' w.heap.size s 0 0 ∧ Below w.heap.size w w' := by
  go_enter Tryd.func65, Tryd.ntmps65
  go_wp2
  go_ret
  exact ⟨rfl, heap_alloc_new _ _, (Below.refl _ _).alloc (Nat.le_refl _) _⟩
theorem err_nil (w : World) : Calls Tryd.prog 67 #[.pointer none] w fun e w' => e = .returned (.int .i64 1) ∧ w = w' := by
  go_enter Tryd.func67, Tryd.ntmps67
  go_wp2
  go_ret
  exact ⟨rfl, rfl⟩
theorem err_any {w : World} {a : Nat} {s : ByteArray} {at_ : Nat} {err : Int} (h : RdAt 134 w a s at_ err) :
    Calls Tryd.prog 67 #[.pointer (some ⟨a, 0, none⟩)] w fun e w' => e = .returned (.int .i64 err) ∧ w = w' := by
  have c2 := rd2 h
  go_enter Tryd.func67, Tryd.ntmps67
  go_wp2
  go_ret
  exact ⟨rfl, rfl⟩
theorem at_nil (w : World) : Calls Tryd.prog 68 #[.pointer none] w fun e w' => e = .returned (.int .i64 0) ∧ w = w' := by
  go_enter Tryd.func68, Tryd.ntmps68
  go_wp2
  go_ret
  exact ⟨rfl, rfl⟩
theorem at_any {w : World} {a : Nat} {s : ByteArray} {at_ : Nat} {err : Int} (h : RdAt 134 w a s at_ err) :
    Calls Tryd.prog 68 #[.pointer (some ⟨a, 0, none⟩)] w fun e w' => e = .returned (.int .i64 at_) ∧ w = w' := by
  have c1 := rd1 h
  go_enter Tryd.func68, Tryd.ntmps68
  go_wp2
  go_ret
  exact ⟨rfl, rfl⟩
theorem left_nil (w : World) : Calls Tryd.prog 90 #[.pointer none] w fun e w' => e = .returned (.int .i64 0) ∧ w = w' := by
  go_enter Tryd.func90, Tryd.ntmps90
  go_wp2
  go_ret
  exact ⟨rfl, rfl⟩
theorem left_any {w : World} {a : Nat} {s : ByteArray} {at_ : Nat} {err : Int} (h : RdAt 134 w a s at_ err) (hs : s.size ≤ 1000000) (ha : at_ ≤ s.size) :
    Calls Tryd.prog 90 #[.pointer (some ⟨a, 0, none⟩)] w fun e w' => e = .returned (.int .i64 ((s.size : Int) - at_)) ∧ ∃ k, w' = w.drewN k := by
  have c0 := rd0 h
  have c1 := rd1 h
  go_enter Tryd.func90, Tryd.ntmps90
  go_wp2
  go_quiet (fail)
  go_wp2
  go_ret
  exact ⟨rfl, _, rfl⟩
theorem drop_at (s : ByteArray) (i : Nat) (h : i < s.size) : s.data.toList.drop i = s[i] :: s.data.toList.drop (i + 1) := by
  rw [List.drop_eq_getElem_cons (by simpa using h)]; rfl
theorem drop_all (s : ByteArray) : s.data.toList.drop s.size = [] := List.drop_of_length_le (Nat.le_refl _)
theorem bs_list (l : List UInt8) : (bs l).toList = l := by rw [Lib.toList_data]; rfl
theorem quiet_eq {P : Program} {f : FuncId} {args : Array Value} {w : World} {n : Nat} {v : Value}
    (h : Calls P f args (w.drewN n) fun e w' => e = .returned v ∧ w.drewN n = w') : Calls P f args (w.drewN n) fun e w'' => e = .returned v ∧ ∃ m, w'' = w.drewN m :=
  h.mono fun _ _ ⟨he, hm⟩ => ⟨he, n, hm.symm⟩
def dTake (l : List UInt8) (at_ : Nat) (err n : Int) : List UInt8 × Nat × Int :=
  if err = 0 then (if n < 0 ∨ (l.length : Int) - at_ < n then ([], at_, 3) else ((l.drop at_).take n.toNat, at_ + n.toNat, 0)) else ([], at_, err)
theorem dTake_at {l : List UInt8} {at_ : Nat} {err n : Int} (h : at_ ≤ l.length) : (dTake l at_ err n).2.1 ≤ l.length := by
  unfold dTake; split
  · split
    · exact h
    · simp; omega
  · exact h
theorem dTake_len {l : List UInt8} {at_ : Nat} {err n : Int} : (dTake l at_ err n).1.length ≤ l.length := by
  unfold dTake; split
  · split
    · simp
    · simp; omega
  · simp
theorem dTake_bad {l : List UInt8} {at_ : Nat} {err n : Int} (h : err ≠ 0) : dTake l at_ err n = ([], at_, err) := if_neg h
theorem dTake_short {l : List UInt8} {at_ : Nat} {n : Int} (h : n < 0 ∨ (l.length : Int) - at_ < n) : dTake l at_ 0 n = ([], at_, 3) := by unfold dTake; rw [if_pos rfl, if_pos h]
theorem dTake_ok {l : List UInt8} {at_ : Nat} {n : Int} (h : 0 ≤ n) (h2 : n ≤ (l.length : Int) - at_) : dTake l at_ 0 n = ((l.drop at_).take n.toNat, at_ + n.toNat, 0) := by unfold dTake; rw [if_pos rfl, if_neg (by omega)]
attribute [irreducible] dTake
def RdPost (t : TypeId) (w : World) (a : Nat) (s : ByteArray) (v : Value) (p : Nat × Int) (e : Ending) (w' : World) : Prop :=
  e = .returned v ∧ RdAt t w' a s p.1 p.2 ∧ w.grownBy w' (some a)
theorem size_len (s : ByteArray) : s.data.toList.length = s.size := rfl
theorem grown_refl (w : World) (row : Option Nat) : w.grownBy w row := ⟨rfl, rfl, rfl, Nat.le_refl _, fun _ _ _ => rfl⟩
theorem cut_nil (n : Int) (w : World) : Calls Tryd.prog 81 #[.pointer none, .int .i64 n] w fun e w' => e = .returned (.string (bs [])) ∧ w = w' := by
  go_enter Tryd.func81, Tryd.ntmps81
  go_wp2_with (go_at_call 67; refine (err_nil _).mono ?_; rintro e w' ⟨rfl, rfl⟩)
  go_ret
  exact ⟨rfl, rfl⟩
theorem cut_bad {w : World} {a : Nat} {s : ByteArray} {at_ : Nat} {err : Int} (n : Int) (h : RdAt 134 w a s at_ err) (he : (err == 0) = false) :
    Calls Tryd.prog 81 #[.pointer (some ⟨a, 0, none⟩), .int .i64 n] w fun e w' => e = .returned (.string (bs [])) ∧ w = w' := by
  have he' : (err != 0) = true := by simp [bne, he]
  go_enter Tryd.func81, Tryd.ntmps81
  go_wp2_with (go_at_call 67; refine (err_any h).mono ?_; rintro e w' ⟨rfl, rfl⟩)
  go_ret
  exact ⟨rfl, rfl⟩
theorem left_held {w : World} {a : Nat} {s : ByteArray} {at_ : Nat} {err : Int} (h : Hid (RdAt 134 w a s at_ err)) (hs : s.size ≤ 1000000) (ha : at_ ≤ s.size) :
    Calls Tryd.prog 90 #[.pointer (some ⟨a, 0, none⟩)] w fun e w' => e = .returned (.int .i64 ((s.size : Int) - at_)) ∧ ∃ k, w' = w.drewN k := left_any h.out hs ha
theorem cut_low {w : World} {a : Nat} {s : ByteArray} {at_ : Nat} (n : Int) (h : RdAt 134 w a s at_ 0) (hn : n < 0) :
    Calls Tryd.prog 81 #[.pointer (some ⟨a, 0, none⟩), .int .i64 n] w (RdPost 134 w a s (.string (bs [])) (at_, 3)) := by
  have c2 := rd2 h
  have f2 := free_in h 2
  have H := Lib.hid h
  clear h
  go_enter Tryd.func81, Tryd.ntmps81
  go_wp2_with (go_at_call 67; refine (err_any H.out).mono ?_; rintro e w' ⟨rfl, rfl⟩)
  go_ret
  exact ⟨rfl, heap_set H.out 2 _, grown_set _ _ _ _⟩
theorem cut_far {w : World} {a : Nat} {s : ByteArray} {at_ : Nat} (n : Int) (h : RdAt 134 w a s at_ 0) (hs : s.size ≤ 1000000) (ha : at_ ≤ s.size) (hn : (s.size : Int) - at_ < n) :
    Calls Tryd.prog 81 #[.pointer (some ⟨a, 0, none⟩), .int .i64 n] w (RdPost 134 w a s (.string (bs [])) (at_, 3)) := by
  have c2 := rd2 h
  have f2 := free_in h 2
  have H := Lib.hid h
  clear h
  have h0 : ¬ n < 0 := by omega
  go_enter Tryd.func81, Tryd.ntmps81
  go_wp2_with (first
    | (go_at_call 67; refine (err_any H.out).mono ?_; rintro e w' ⟨rfl, rfl⟩)
    | (go_at_call 90; refine (left_held H hs ha).mono ?_; rintro e w' ⟨rfl, k, rfl⟩))
  go_ret
  exact ⟨rfl, heap_set (rd_drewN H.out k) 2 _, (grown_drewN w k _).trans (grown_set _ _ _ _)⟩
theorem cut_ok {w : World} {a : Nat} {s : ByteArray} {at_ : Nat} (n : Nat) (h : RdAt 134 w a s at_ 0) (hs : s.size ≤ 1000000) (ha : at_ ≤ s.size) (hn : n ≤ s.size - at_) :
    Calls Tryd.prog 81 #[.pointer (some ⟨a, 0, none⟩), .int .i64 n] w (RdPost 134 w a s (.string (bs ((s.data.toList.drop at_).take n))) (at_ + n, 0)) := by
  have c0 := rd0 h
  have c1 := rd1 h
  have f1 := free_in h 1
  have H := Lib.hid h
  clear h
  have h0 : (n : Int) ≤ (s.size : Int) - at_ := by omega
  go_enter Tryd.func81, Tryd.ntmps81
  go_wp2_with (first
    | (go_at_call 67; refine (err_any H.out).mono ?_; rintro e w' ⟨rfl, rfl⟩)
    | (go_at_call 90; refine (left_held H hs ha).mono ?_; rintro e w' ⟨rfl, k, rfl⟩))
  have g1 : (at_ : Int) + n ≤ s.size := by omega
  have g2 : (0 : Int) ≤ (at_ : Int) + n := by omega
  have g3 : (at_ : Int) ≤ (at_ : Int) + n := by omega
  have g5 : at_ + n ≤ s.size := by omega
  have g4 : ((at_ : Int) + n).toNat = at_ + n := by omega
  go_quiet (fail)
  go_wp2
  go_ret
  have e : s.extract at_ (at_ + n) = bs ((s.data.toList.drop at_).take n) := by rw [Lib.extract_eq, Nat.add_sub_cancel_left]; rfl
  refine ⟨by rw [← e]; rfl, ?_, ((grown_drewN w k _).trans (grown_set _ _ _ _)).trans (grown_drewN _ nq _)⟩
  exact heap_set (rd_drewN H.out k) 1 _
theorem cut_any {w : World} {a : Nat} {s : ByteArray} {at_ : Nat} {err : Int} (n : Int) (h : RdAt 134 w a s at_ err) (hs : s.size ≤ 1000000) (ha : at_ ≤ s.size) :
    Calls Tryd.prog 81 #[.pointer (some ⟨a, 0, none⟩), .int .i64 n] w (RdPost 134 w a s (.string (bs (dTake s.data.toList at_ err n).1)) (dTake s.data.toList at_ err n).2) := by
  by_cases he : err = 0
  · subst he
    by_cases h0 : n < 0
    · rw [dTake_short (.inl h0)]; exact cut_low n h h0
    · by_cases h1 : (s.size : Int) - at_ < n
      · rw [dTake_short (.inr h1)]; exact cut_far n h hs ha h1
      · rw [dTake_ok (by omega) (by rw [size_len]; omega)]
        have := cut_ok n.toNat h hs ha (by omega)
        rw [show ((n.toNat : Nat) : Int) = n by omega] at this
        exact this
  · rw [dTake_bad he]
    exact (cut_bad n h (by simpa using he)).mono fun e w' ⟨h1, h2⟩ => by subst h2; exact ⟨h1, h, grown_refl _ _⟩
theorem clone_any (s : ByteArray) (w : World) (hs : Hid (s.size ≤ 281474976710656)) :
    Calls Tryd.prog 24 #[.string s] w fun e w' => e = .returned (.string s) ∧ Below w.heap.size w w' := by
  go_enter Tryd.func24, Tryd.ntmps24
  go_wp2_with (go_at_call 42; with_reducible refine (Tryd.stringslite_Clone s _ hs.out).mono ?_; rintro e w1 ⟨rfl, hb⟩)
  go_ret
  exact ⟨rfl, hb⟩
def GaJ (s : ByteArray) (w : World) (a' : Act) (w' : World) : Prop :=
  w = w' ∧ ∃ (i n : Nat) (u5 u6 u7 u8 u9 u10 u11 u12 u13 u14 u15 u16 u17 u18 : Value), a' = { tmps := #[.string s, undef, .int .u64 0, .int .u64 n, .int .i64 i, u5, u6, u7, u8, u9, u10, u11, u12, u13, u14, u15, u16, u17, u18], defers := [] } ∧ i < s.size ∧ n = big (s.data.toList.drop i)
def gaMu (a' : Act) : Nat := (intOf (a'.tmps.getD 4 undef)).toNat
theorem or_low {n : Nat} (c : UInt8) (h : n < 72057594037927936) : bits .or .u64 ((n : Int) * 256) (c.toNat : Int) = ((c.toNat + 256 * n : Nat) : Int) := by
  have hc := c.toNat_lt
  have e : (n : Int) * 256 = ((2 ^ 8 * n : Nat) : Int) := by omega
  rw [e, u64_or_nat _ _ (by omega) (by omega), ← Nat.two_pow_add_eq_or_of_lt hc]
  omega
theorem wrap_byte (c : UInt8) : IntKind.u64.wrap (c.toNat : Int) = (c.toNat : Int) := by
  have hc := c.toNat_lt
  rw [IntKind.wrap_u64]; omega
theorem or_low8 {n : Nat} (c : UInt8) (h : n < 72057594037927936) : bits .or .u64 ((n : Int) * 256) (IntKind.u64.wrap (c.toNat : Int)) = ((c.toNat + 256 * n : Nat) : Int) := by rw [wrap_byte, or_low c h]
theorem or_low0 (c : UInt8) : bits .or .u64 0 (IntKind.u64.wrap (c.toNat : Int)) = ((c.toNat + 256 * 0 : Nat) : Int) := or_low8 (n := 0) c (by decide)
theorem big_drop_lt {s : ByteArray} {i : Nat} (hs : s.size ≤ 8) (hi : 1 ≤ i) : big (s.data.toList.drop i) < 72057594037927936 := by
  have h := big_lt (s.data.toList.drop i)
  have hl : (s.data.toList.drop i).length ≤ 7 := by rw [List.length_drop, size_len]; omega
  exact Nat.lt_of_lt_of_le h (Nat.le_trans (Nat.pow_le_pow_right (by decide) hl) (by decide))
theorem big_drop (s : ByteArray) (i : Nat) (h : i < s.size) : big (s.data.toList.drop i) = s[i].toNat + 256 * big (s.data.toList.drop (i + 1)) := by
  rw [drop_at s i h, big_cons]
theorem gaJ_next {s : ByteArray} {w : World} {i n : Nat} {x y : Int} (h : i < s.size) (hn : Hid (n = big (s.data.toList.drop (i + 1)))) (hx : x = ((s[i].toNat + 256 * n : Nat) : Int)) (hy : y = (i : Int)) (u5 u6 u7 u8 u9 u10 u11 u12 u13 u14 u15 u16 u17 u18 : Value) :
    GaJ s w { tmps := #[.string s, undef, .int .u64 0, .int .u64 x, .int .i64 y, u5, u6, u7, u8, u9, u10, u11, u12, u13, u14, u15, u16, u17, u18], defers := [] } w := by
  refine ⟨rfl, i, s[i].toNat + 256 * n, u5, u6, u7, u8, u9, u10, u11, u12, u13, u14, u15, u16, u17, u18, by rw [hx, hy], h, ?_⟩
  rw [big_drop s i h, ← hn.out]
set_option maxRecDepth 100000 in
set_option maxHeartbeats 1000000 in
theorem gather_any (s : ByteArray) (hs : s.size ≤ 8) (w : World) :
    Calls Tryd.prog 80 #[.string s] w fun e w' => e = .returned (.int .u64 (big s.data.toList)) ∧ w = w' := by
  go_enter Tryd.func80, Tryd.ntmps80
  go_wp2
  refine wp_scope_jumps 0 (GaJ s w) (fun a' _ => gaMu a') rfl ?_ ?_
  · by_cases h0 : s.size = 0
    · have h0' : ((s.size : Int) == 0) = true := by simp [h0]
      have H0 := Lib.hid h0
      clear h0
      go_wp2
      go_step3
      go_wp2
      simp only [Exit.jump]
      go_ret
      exact ⟨ret_int (by rw [show s.data.toList = [] from List.eq_nil_of_length_eq_zero H0.out, big_nil]; rfl), rfl⟩
    · obtain ⟨j, hj⟩ : ∃ j, s.size = j + 1 := ⟨s.size - 1, by omega⟩
      have hj' : j < s.size := by omega
      have e : ((s.size : Int) - 1) = (j : Int) := by omega
      have HJ := Lib.hid hj
      clear hj
      go_wp2
      go_step3
      go_wp2
      go_step3
      refine ⟨rfl, gaJ_next (n := 0) hj' ?_ (or_low0 _) rfl _ _ _ _ _ _ _ _ _ _ _ _ _ _⟩
      show 0 = _
      rw [← HJ.out, drop_all, big_nil]
  · rintro a' w' ⟨rfl, i, n, u5, u6, u7, u8, u9, u10, u11, u12, u13, u14, u15, u16, u17, u18, rfl, hi, hn⟩
    have HN := Lib.hid hn
    clear hn
    by_cases h0 : i = 0
    · subst h0
      go_wp2
      simp only [Exit.jump]
      go_ret
      exact ⟨ret_int (by rw [HN.out]; rfl), rfl⟩
    · obtain ⟨j, rfl⟩ : ∃ j, i = j + 1 := ⟨i - 1, by omega⟩
      have hlt : n < 72057594037927936 := by rw [HN.out]; exact big_drop_lt hs (by omega)
      have hj' : j < s.size := by omega
      go_wp2
      go_step3
      refine ⟨rfl, gaJ_next hj' HN (or_low8 _ hlt) rfl _ _ _ _ _ _ _ _ _ _ _ _ _ _, ?_⟩
      simp [gaMu, intOf]
theorem gather_at {l : List UInt8} {s : ByteArray} (h : s = bs l) (hl : l.length ≤ 8) (w : World) :
    Calls Tryd.prog 80 #[.string s] w fun e w' => e = .returned (.int .u64 (big l)) ∧ w = w' := by
  subst h; exact gather_any (bs l) (by rw [bs_size]; exact hl) w
theorem dTake_small {l : List UInt8} {at_ : Nat} {err n : Int} (h : n ≤ 8) : (dTake l at_ err n).1.length ≤ 8 := by
  by_cases he : err = 0
  · subst he
    by_cases h2 : n < 0 ∨ (l.length : Int) - at_ < n
    · rw [dTake_short h2]; simp
    · rw [dTake_ok (by omega) (by omega)]; simp; omega
  · rw [dTake_bad he]; simp
theorem rwide_any {w : World} {a : Nat} {s : ByteArray} {at_ : Nat} {err : Int} (h : RdAt 134 w a s at_ err) (hs : s.size ≤ 1000000) (ha : at_ ≤ s.size) :
    Calls Tryd.prog 66 #[.pointer (some ⟨a, 0, none⟩)] w (RdPost 134 w a s (.int .u64 (big (dTake s.data.toList at_ err 8).1)) (dTake s.data.toList at_ err 8).2) := by
  have hl := dTake_small (l := s.data.toList) (at_ := at_) (err := err) (n := 8) (by omega)
  have HC := cut_any 8 h hs ha
  generalize dTake s.data.toList at_ err 8 = r at hl HC ⊢
  obtain ⟨l2, at2, err2⟩ := r
  have HC := Lib.hid HC
  clear h
  go_enter Tryd.func66, Tryd.ntmps66
  go_wp2_with (first
    | (go_at_call 81; refine HC.out.mono ?_; rintro e w1 ⟨rfl, h1, g1⟩; have H1 := Lib.hid h1; clear h1)
    | (go_at_call 80; refine (gather_at (l := l2) rfl hl _).mono ?_; rintro e w' ⟨rfl, rfl⟩))
  go_ret
  exact ⟨rfl, H1.out, g1⟩
end Go.Proofs.YtadejeoiffaimaaDoor
namespace Go.Proofs.YtadejeoiffaimaaDoor
open Go.RowKit
open Vi

theorem or_lt64 {a b : Nat} (ha : a < 18446744073709551616) (hb : b < 18446744073709551616) : a ||| b < 18446744073709551616 := Nat.or_lt_two_pow (n := 64) ha hb
theorem and_lt64 {a : Nat} (b : Nat) (ha : a < 18446744073709551616) : a &&& b < 18446744073709551616 := Nat.lt_of_le_of_lt Nat.and_le_left ha
theorem swap_bits {x d M : Nat} {y e m : Int} (hy : y = (x : Int)) (he : e = (d : Int)) (hm : m = (M : Int)) (hx : x < 18446744073709551616) (hM : M < 18446744073709551616) :
    bits .or .u64 (bits .and .u64 (y / e) m) (IntKind.u64.wrap (bits .and .u64 y m * e)) = (((x / d &&& M) ||| ((x &&& M) * d % 18446744073709551616) : Nat) : Int) := by
  subst hy he hm
  have hxd : x / d < 18446744073709551616 := Nat.lt_of_le_of_lt (Nat.div_le_self x d) hx
  have e1 : (x : Int) / (d : Int) = ((x / d : Nat) : Int) := rfl
  rw [e1, u64_and_nat _ _ hxd hM, u64_and_nat _ _ hx hM]
  have e2 : IntKind.u64.wrap (((x &&& M : Nat) : Int) * (d : Int)) = (((x &&& M) * d % 18446744073709551616 : Nat) : Int) := by
    rw [IntKind.wrap_u64, ← Int.natCast_mul]; rfl
  rw [e2, u64_or_nat _ _ (and_lt64 _ hxd) (by omega)]
theorem last_bits {x : Nat} {y : Int} (hy : y = (x : Int)) (hx : x < 18446744073709551616) :
    bits .or .u64 (y / 4294967296) (IntKind.u64.wrap (y * 4294967296)) = (((x / 4294967296) ||| (x * 4294967296 % 18446744073709551616) : Nat) : Int) := by
  subst hy
  have e1 : (x : Int) / 4294967296 = ((x / 4294967296 : Nat) : Int) := rfl
  have e2 : IntKind.u64.wrap ((x : Int) * 4294967296) = ((x * 4294967296 % 18446744073709551616 : Nat) : Int) := by rw [IntKind.wrap_u64]; rfl
  rw [e1, e2, u64_or_nat _ _ (by omega) (by omega)]
theorem reverse_any (n : Nat) (hn : n < 18446744073709551616) (w : World) :
    Calls Tryd.prog 62 #[.int .u64 n] w fun e w' => e = .returned (.int .u64 (rev8 n)) ∧ w = w' := by
  go_enter Tryd.func62, Tryd.ntmps62
  go_wp2
  go_ret
  refine ⟨ret_int ?_, rfl⟩
  have h1 : ∀ z : Nat, (z &&& 71777214294589695) * 256 % 18446744073709551616 < 18446744073709551616 := fun z => Nat.mod_lt _ (by decide)
  have h2 : ∀ z : Nat, (z &&& 281470681808895) * 65536 % 18446744073709551616 < 18446744073709551616 := fun z => Nat.mod_lt _ (by decide)
  have s1 := swap_bits (x := n) (d := 256) (M := 71777214294589695) rfl rfl rfl hn (by decide)
  have b1 : (n / 256 &&& 71777214294589695) ||| ((n &&& 71777214294589695) * 256 % 18446744073709551616) < 18446744073709551616 := or_lt64 (and_lt64 _ (by omega)) (h1 n)
  have s2 := swap_bits (x := (n / 256 &&& 71777214294589695) ||| ((n &&& 71777214294589695) * 256 % 18446744073709551616)) (d := 65536) (M := 281470681808895) s1 rfl rfl b1 (by decide)
  have b2 := or_lt64 (and_lt64 281470681808895 (Nat.lt_of_le_of_lt (Nat.div_le_self _ 65536) b1)) (h2 ((n / 256 &&& 71777214294589695) ||| ((n &&& 71777214294589695) * 256 % 18446744073709551616)))
  have s3 := last_bits s2 b2
  exact s3.trans (congrArg _ (revText_eq hn))

/-! parts -/
def lift (n : Int) : Nat := (n + 9223372036854775808).toNat
def big8 (n : Nat) : List UInt8 := (little 8 n).reverse
theorem big8_len (n : Nat) : (big8 n).length = 8 := by unfold big8; rw [List.length_reverse, little_len]
theorem highFirst_any (n : Nat) (hn : n < 18446744073709551616) (w : World) :
    Calls Tryd.prog 58 #[.int .u64 n] w fun e w' => e = .returned (.string (bs (big8 n))) ∧ Below w.heap.size w w' := by
  have hw : ∀ W : World, Calls Tryd.prog 61 #[.int .u64 (rev8 n)] W fun e w' => e = .returned (.string (bs (big8 n))) ∧ Below W.heap.size W w' := fun W => by
    have := wide_any (rev8 n) (rev8_lt n) W
    rw [little_rev8] at this
    exact this
  have HW := Lib.hid hw
  clear hw
  go_enter Tryd.func58, Tryd.ntmps58
  go_wp2_with (first
    | (go_at_call 62; refine (reverse_any n hn _).mono ?_; rintro e w' ⟨rfl, rfl⟩)
    | (go_at_call 61; refine (HW.out _).mono ?_; rintro e w' ⟨rfl, hb⟩))
  go_ret
  exact ⟨rfl, hb⟩
theorem highFirst_at {x : Int} {n : Nat} (hx : x = n) (hn : n < 18446744073709551616) (w : World) :
    Calls Tryd.prog 58 #[.int .u64 x] w fun e w' => e = .returned (.string (bs (big8 n))) ∧ Below w.heap.size w w' := by
  subst hx; exact highFirst_any n hn w

structure KPart where
  sort : Nat
  n : Int
  u : Nat
  s : ByteArray
def KPart.ok (p : KPart) : Prop := p.sort < 256 ∧ -9223372036854775808 ≤ p.n ∧ p.n ≤ 9223372036854775807 ∧ p.u < 18446744073709551616
def KPart.cells (p : KPart) : List Value := [.int .u8 p.sort, .int .i64 p.n, .int .u64 p.u, .string p.s]
def KPart.val (p : KPart) : Value := .agg #[.int .u8 p.sort, .int .i64 p.n, .int .u64 p.u, .string p.s]
def esc : List UInt8 → List UInt8
  | [] => []
  | c :: l => if c = 0 then 0 :: 255 :: esc l else c :: esc l
def pbytes (p : KPart) : List UInt8 × Int :=
  if p.sort = 105 then (105 :: big8 (lift p.n), 0) else if p.sort = 100 then (100 :: big8 (18446744073709551615 - lift p.n), 0)
  else if p.sort = 117 then (117 :: big8 p.u, 0) else if p.sort = 116 then (if 200 < p.s.size then ([], 5) else (116 :: (esc p.s.data.toList ++ [0, 0]), 0)) else ([], 11)
theorem lift_lt {n : Int} (h1 : -9223372036854775808 ≤ n) (h2 : n ≤ 9223372036854775807) : lift n < 18446744073709551616 := by unfold lift; omega
theorem cons_bs (c : UInt8) (l : List UInt8) : bs [c] ++ bs l = bs (c :: l) := bs_append [c] l
theorem xor_ones {a : Nat} (h : a < 18446744073709551616) : a ^^^ 18446744073709551615 = 18446744073709551615 - a := by
  have h1 : (BitVec.ofNat 64 a ^^^ BitVec.allOnes 64).toNat = 18446744073709551615 - a := by
    rw [BitVec.xor_allOnes, BitVec.toNat_not, BitVec.toNat_ofNat, Nat.mod_eq_of_lt h]
  rw [BitVec.toNat_xor, BitVec.toNat_ofNat, Nat.mod_eq_of_lt h] at h1
  exact h1
theorem turn_bits {n : Int} (h1 : -9223372036854775808 ≤ n) (h2 : n ≤ 9223372036854775807) : bits .xor .u64 (if IntKind.u64.signed = true then -1 else IntKind.u64.max) (IntKind.u64.wrap (IntKind.u64.wrap n + 9223372036854775808)) = ((18446744073709551615 - lift n : Nat) : Int) := by
  have hx : IntKind.u64.wrap (IntKind.u64.wrap n + 9223372036854775808) = ((lift n : Nat) : Int) := by unfold lift; simp only [IntKind.wrap_u64]; omega
  have e : (if IntKind.u64.signed = true then -1 else IntKind.u64.max) = ((18446744073709551615 : Nat) : Int) := by decide
  rw [hx, e, u64_xor_nat _ _ (by decide) (lift_lt h1 h2), Nat.xor_comm, xor_ones (lift_lt h1 h2)]
theorem bytes_i {w : World} (n : Int) (u : Nat) (s : ByteArray) (h1 : -9223372036854775808 ≤ n) (h2 : n ≤ 9223372036854775807) (hu : u < 18446744073709551616) :
    Calls Tryd.prog 52 #[.agg #[.int .u8 105, .int .i64 n, .int .u64 u, .string s]] w fun e w' => e = .returned (.tuple #[.string (bs (105 :: big8 (lift n))), .int .i64 0]) ∧ Below w.heap.size w w' := by
  have hl := big8_len (lift n)
  have hbz := bs_size
  have hcb : ByteArray.mk #[105] ++ bs (big8 (lift n)) = bs (105 :: big8 (lift n)) := cons_bs 105 _
  have hx : IntKind.u64.wrap (IntKind.u64.wrap n + 9223372036854775808) = ((lift n : Nat) : Int) := by unfold lift; simp only [IntKind.wrap_u64]; omega
  have HX := Lib.hid hx
  clear hx
  go_enter Tryd.func52, Tryd.ntmps52
  go_wp2_with (go_at_call 58; refine (highFirst_at HX.out (lift_lt h1 h2) _).mono ?_; rintro e w1 ⟨rfl, hb⟩)
  go_ret2
  exact ⟨rfl, ((Below.refl _ _).alloc (Nat.le_refl _) _).trans (hb.mono (by simp))⟩
theorem bytes_d {w : World} (n : Int) (u : Nat) (s : ByteArray) (h1 : -9223372036854775808 ≤ n) (h2 : n ≤ 9223372036854775807) (hu : u < 18446744073709551616) :
    Calls Tryd.prog 52 #[.agg #[.int .u8 100, .int .i64 n, .int .u64 u, .string s]] w fun e w' => e = .returned (.tuple #[.string (bs (100 :: big8 (18446744073709551615 - lift n))), .int .i64 0]) ∧ Below w.heap.size w w' := by
  have hl := big8_len (18446744073709551615 - lift n)
  have hbz := bs_size
  have hcb : ByteArray.mk #[100] ++ bs (big8 (18446744073709551615 - lift n)) = bs (100 :: big8 (18446744073709551615 - lift n)) := cons_bs 100 _
  have HX := Lib.hid (lift_lt h1 h2)
  go_enter Tryd.func52, Tryd.ntmps52
  go_wp2_with (go_at_call 58; refine (highFirst_at (turn_bits h1 h2) (by omega) _).mono ?_; rintro e w1 ⟨rfl, hb⟩)
  go_ret2
  exact ⟨rfl, ((Below.refl _ _).alloc (Nat.le_refl _) _).trans (hb.mono (by simp))⟩
theorem bytes_u {w : World} (n : Int) (u : Nat) (s : ByteArray) (h1 : -9223372036854775808 ≤ n) (h2 : n ≤ 9223372036854775807) (hu : u < 18446744073709551616) :
    Calls Tryd.prog 52 #[.agg #[.int .u8 117, .int .i64 n, .int .u64 u, .string s]] w fun e w' => e = .returned (.tuple #[.string (bs (117 :: big8 (u))), .int .i64 0]) ∧ Below w.heap.size w w' := by
  have hl := big8_len (u)
  have hbz := bs_size
  have hcb : ByteArray.mk #[117] ++ bs (big8 (u)) = bs (117 :: big8 (u)) := cons_bs 117 _
  go_enter Tryd.func52, Tryd.ntmps52
  go_wp2_with (go_at_call 58; refine (highFirst_at rfl (hu) _).mono ?_; rintro e w1 ⟨rfl, hb⟩)
  go_ret2
  exact ⟨rfl, ((Below.refl _ _).alloc (Nat.le_refl _) _).trans (hb.mono (by simp))⟩
theorem bytes_none {w : World} (k : Nat) (n : Int) (u : Nat) (s : ByteArray) (k1 : ((k : Int) == 105) = false) (k2 : ((k : Int) == 100) = false) (k3 : ((k : Int) == 117) = false) (k4 : ((k : Int) == 116) = false) :
    Calls Tryd.prog 52 #[.agg #[.int .u8 k, .int .i64 n, .int .u64 u, .string s]] w fun e w' => e = .returned (.tuple #[.string (bs []), .int .i64 11]) ∧ Below w.heap.size w w' := by
  go_enter Tryd.func52, Tryd.ntmps52
  go_wp2
  go_ret2
  exact ⟨rfl, (Below.refl _ _).alloc (Nat.le_refl _) _⟩
theorem bytes_long {w : World} (n : Int) (u : Nat) (s : ByteArray) (hs : 200 < s.size) (hm : s.size ≤ 9223372036854775807) :
    Calls Tryd.prog 52 #[.agg #[.int .u8 116, .int .i64 n, .int .u64 u, .string s]] w fun e w' => e = .returned (.tuple #[.string (bs []), .int .i64 5]) ∧ Below w.heap.size w w' := by
  go_enter Tryd.func52, Tryd.ntmps52
  go_wp2
  go_ret2
  exact ⟨rfl, (Below.refl _ _).alloc (Nat.le_refl _) _⟩

/-! a text's bytes 0 -/
section
open Lib
theorem idx_nil : index [] [0] = -1 := rfl
theorem idx_zero (l : List UInt8) : index (0 :: l) [0] = 0 := by simp [index, List.isPrefixOf]
theorem idx_other {b : UInt8} (h : ¬ b = 0) (l : List UInt8) : index (b :: l) [0] = if index l [0] == -1 then -1 else index l [0] + 1 := by
  have : ([0] : List UInt8).isPrefixOf (b :: l) = false := by simp [List.isPrefixOf]; exact fun e => h e.symm
  rw [index, this]; simp
theorem repl_other {b : UInt8} (h : ¬ b = 0) (l : List UInt8) : ∀ k, replaceK [0] [0, 255] k (b :: l) = b :: replaceK [0] [0, 255] k l
  | 0 => rfl
  | k + 1 => by
    rw [replaceK, replaceK, idx_other h]
    by_cases hi : (index l [0] == -1) = true
    · simp [hi]
    · have h0 := index_ge l [0]
      have h1 : ¬ index l [0] = -1 := by simpa using hi
      rw [if_neg hi, if_neg hi, if_neg (by simp; omega)]
      have e : (index l [0] + 1).toNat = (index l [0]).toNat + 1 := by omega
      rw [e]; simp [Nat.add_right_comm]
theorem repl_zero (l : List UInt8) (k : Nat) : replaceK [0] [0, 255] (k + 1) (0 :: l) = 0 :: 255 :: replaceK [0] [0, 255] k l := by
  rw [replaceK, idx_zero, if_neg (by decide)]; simp
def zeros : List UInt8 → Nat
  | [] => 0
  | c :: l => (if c = 0 then 1 else 0) + zeros l
theorem repl_esc : ∀ (l : List UInt8) (k : Nat), zeros l ≤ k → replaceK [0] [0, 255] k l = esc l
  | [], k, _ => by cases k <;> simp [replaceK, esc, index]
  | c :: l, k, h => by
    by_cases hc : c = 0
    · subst hc
      simp only [zeros, if_pos] at h
      obtain ⟨j, rfl⟩ : ∃ j, k = j + 1 := ⟨k - 1, by omega⟩
      rw [repl_zero, repl_esc l j (by omega)]; simp [esc]
    · simp only [zeros, if_neg hc] at h
      rw [repl_other hc, repl_esc l k (by omega)]; simp [esc, hc]
theorem count_other {b : UInt8} (h : ¬ b = 0) (l : List UInt8) (f : Nat) : countFrom [0] (f + 1) (b :: l) = countFrom [0] (f + 1) l := by
  rw [countFrom, countFrom, idx_other h]
  by_cases hi : (index l [0] == -1) = true
  · simp [hi]
  · have h0 := index_ge l [0]
    have h1 : ¬ index l [0] = -1 := by simpa using hi
    rw [if_neg hi, if_neg hi, if_neg (by simp; omega)]
    have e : (index l [0] + 1).toNat = (index l [0]).toNat + 1 := by omega
    rw [e]; simp [Nat.add_right_comm]
theorem zeros_count : ∀ (l : List UInt8) (f : Nat), l.length < f → zeros l ≤ countFrom [0] f l
  | [], f, _ => by simp [zeros]
  | c :: l, f, h => by
    obtain ⟨j, rfl⟩ : ∃ j, f = j + 1 := ⟨f - 1, by simp at h; omega⟩
    by_cases hc : c = 0
    · subst hc
      have := zeros_count l j (by simp at h; omega)
      rw [countFrom, idx_zero, if_neg (by decide)]
      simp [zeros]; omega
    · have := zeros_count l (j + 1) (by simp at h; omega)
      rw [count_other hc]; simp [zeros, hc]; omega
theorem count_le (sub : List UInt8) : ∀ (f : Nat) (l : List UInt8), countFrom sub f l ≤ f
  | 0, _ => by simp [countFrom]
  | f + 1, l => by
    rw [countFrom]; split
    · omega
    · have := count_le sub f (l.drop ((index l sub).toNat + sub.length)); omega
theorem replaceAll_esc (l : List UInt8) : replaceAll l [0] [0, 255] = esc l := by
  unfold replaceAll replace
  rw [if_neg (by decide)]
  have : replaceNum l [0] (-1) = count l [0] := by unfold replaceNum; rw [if_pos (by omega)]
  rw [this]
  exact repl_esc l _ (zeros_count l _ (by omega))
end
theorem esc_len : ∀ l : List UInt8, (esc l).length ≤ 2 * l.length
  | [] => by simp [esc]
  | c :: l => by
    have := esc_len l
    by_cases hc : c = 0 <;> simp [esc, hc] <;> omega
theorem cell_alloc0 {w : World} {v : Value} (h : w.cell? ⟨0, 0, none⟩ = some v) (o : Obj) : (w.alloc o).cell? ⟨0, 0, none⟩ = some v := by
  rw [World.cell?_alloc_lt w o _ (by
    rcases Nat.lt_or_ge 0 w.heap.size with h' | h'
    · exact h'
    · unfold World.cell? at h
      rw [Array.getElem?_eq_none h'] at h
      simp at h)]
  exact h
theorem bytes_t {w : World} (n : Int) (u : Nat) (s : ByteArray) (hs : s.size ≤ 200) (m : Int) (hm : w.cell? ⟨0, 0, none⟩ = some (.int .i64 m)) :
    Calls Tryd.prog 52 #[.agg #[.int .u8 116, .int .i64 n, .int .u64 u, .string s]] w fun e w' => e = .returned (.tuple #[.string (bs (116 :: (esc s.data.toList ++ [0, 0]))), .int .i64 0]) ∧ Below w.heap.size w w' := by
  have hc : ∀ o : Obj, Calls Tryd.prog 59 #[.string s, .string ⟨#[0]⟩, .string ⟨#[0, 255]⟩] (w.alloc o) fun e w' => e = .returned (.string (bs (esc s.data.toList))) ∧ Below (w.alloc o).heap.size (w.alloc o) w' := fun o => by
    have h1 : Lib.countB s ⟨#[0]⟩ ≤ s.size + 1 := count_le _ _ _
    have := Tryd.strings_ReplaceAll s ⟨#[0]⟩ ⟨#[0, 255]⟩ m (w.alloc o) (by omega) (cell_alloc0 hm o) (by decide) (by
      have h2 : (ByteArray.mk #[0, 255]).size = 2 := rfl
      rw [h2]; omega)
    rw [replaceAll_esc] at this
    exact this
  have HC := Lib.hid hc
  have hbz := bs_size
  have hel := esc_len s.data.toList
  rw [size_len] at hel
  have hcb : ByteArray.mk #[116] ++ bs (esc s.data.toList) = bs (116 :: esc s.data.toList) := cons_bs 116 _
  have hc2 : ∀ l : List UInt8, bs l ++ ByteArray.mk #[0] = bs (l ++ [0]) := fun l => bs_append l [0]
  clear hc hm
  go_enter Tryd.func52, Tryd.ntmps52
  go_wp2_with (go_at_call 59; refine (HC.out _).mono ?_; rintro e w1 ⟨rfl, hb⟩)
  go_ret2
  exact ⟨by simp, ((Below.refl _ _).alloc (Nat.le_refl _) _).trans (hb.mono (by simp))⟩
end Go.Proofs.YtadejeoiffaimaaDoor
namespace Go.Proofs.YtadejeoiffaimaaDoor
open Go.RowKit
open Vi

theorem pbytes_i {p : KPart} (h : p.sort = 105) : pbytes p = (105 :: big8 (lift p.n), 0) := if_pos h
theorem pbytes_d {p : KPart} (h : p.sort = 100) : pbytes p = (100 :: big8 (18446744073709551615 - lift p.n), 0) := by unfold pbytes; rw [if_neg (by omega), if_pos h]
theorem pbytes_u {p : KPart} (h : p.sort = 117) : pbytes p = (117 :: big8 p.u, 0) := by unfold pbytes; rw [if_neg (by omega), if_neg (by omega), if_pos h]
theorem pbytes_l {p : KPart} (h : p.sort = 116) (hs : 200 < p.s.size) : pbytes p = ([], 5) := by unfold pbytes; rw [if_neg (by omega), if_neg (by omega), if_neg (by omega), if_pos h, if_pos hs]
theorem pbytes_t {p : KPart} (h : p.sort = 116) (hs : ¬ 200 < p.s.size) : pbytes p = (116 :: (esc p.s.data.toList ++ [0, 0]), 0) := by unfold pbytes; rw [if_neg (by omega), if_neg (by omega), if_neg (by omega), if_pos h, if_neg hs]
theorem pbytes_n {p : KPart} (h1 : ¬ p.sort = 105) (h2 : ¬ p.sort = 100) (h3 : ¬ p.sort = 117) (h4 : ¬ p.sort = 116) : pbytes p = ([], 11) := by unfold pbytes; rw [if_neg h1, if_neg h2, if_neg h3, if_neg h4]
theorem pbytes_len (p : KPart) : (pbytes p).1.length ≤ 403 := by
  unfold pbytes
  split
  · simp [big8_len]
  · split
    · simp [big8_len]
    · split
      · simp [big8_len]
      · split
        · split
          · simp
          · have := esc_len p.s.data.toList
            rw [size_len] at this; simp; omega
        · simp
theorem bytes_any {w : World} (p : KPart) (hp : p.ok) (hs : p.s.size ≤ 9223372036854775807) (m : Int) (hm : w.cell? ⟨0, 0, none⟩ = some (.int .i64 m)) :
    Calls Tryd.prog 52 #[.agg #[.int .u8 p.sort, .int .i64 p.n, .int .u64 p.u, .string p.s]] w fun e w' => e = .returned (.tuple #[.string (bs (pbytes p).1), .int .i64 (pbytes p).2]) ∧ Below w.heap.size w w' := by
  obtain ⟨h0, h1, h2, h3⟩ := hp
  by_cases c1 : p.sort = 105
  · rw [pbytes_i c1, c1]; exact bytes_i p.n p.u p.s h1 h2 h3
  · by_cases c2 : p.sort = 100
    · rw [pbytes_d c2, c2]; exact bytes_d p.n p.u p.s h1 h2 h3
    · by_cases c3 : p.sort = 117
      · rw [pbytes_u c3, c3]; exact bytes_u p.n p.u p.s h1 h2 h3
      · by_cases c4 : p.sort = 116
        · by_cases c5 : 200 < p.s.size
          · rw [pbytes_l c4 c5, c4]; exact bytes_long p.n p.u p.s c5 hs
          · rw [pbytes_t c4 c5, c4]; exact bytes_t p.n p.u p.s (by omega) m hm
        · rw [pbytes_n c1 c2 c3 c4]
          exact bytes_none p.sort p.n p.u p.s (by simp; omega) (by simp; omega) (by simp; omega) (by simp; omega)
attribute [local irreducible] pbytes

/-! a row of parts in memory -/
def PCells (w : World) (x : Addr) (p : KPart) : Prop :=
  w.cell? x = some (.int .u8 p.sort) ∧ w.cell? ⟨x.block, x.off + 1, none⟩ = some (.int .i64 p.n) ∧ w.cell? ⟨x.block, x.off + 2, none⟩ = some (.int .u64 p.u) ∧ w.cell? ⟨x.block, x.off + 3, none⟩ = some (.string p.s)
def PRow (w : World) (A : Option Addr) (l : List KPart) : Prop :=
  0 < l.length → ∃ a, A = some a ∧ a.block < w.heap.size ∧ ∀ i (h : i < l.length), PCells w (a.add (i * 4)) l[i]
theorem block_add (a : Addr) (n : Nat) : (a.add n).block = a.block := by unfold Addr.add; split <;> rfl
theorem PCells.keep {w w' : World} {x : Addr} {p : KPart} (h : PCells w x p) (hk : ∀ q : Addr, q.block = x.block → w'.cell? q = w.cell? q) : PCells w' x p :=
  ⟨(hk x rfl).trans h.1, (hk ⟨x.block, x.off + 1, none⟩ rfl).trans h.2.1, (hk ⟨x.block, x.off + 2, none⟩ rfl).trans h.2.2.1, (hk ⟨x.block, x.off + 3, none⟩ rfl).trans h.2.2.2⟩
theorem PRow.below {B : Nat} {w w' : World} {A : Option Addr} {l : List KPart} (h : PRow w A l) (hb : Below B w w') (hB : w.heap.size ≤ B) : PRow w' A l := fun h0 => by
  obtain ⟨a, e, hlt, hc⟩ := h h0
  exact ⟨a, e, Nat.lt_of_lt_of_le hlt hb.size, fun i hi => (hc i hi).keep fun q hq => hb.cell (by rw [hq, block_add]; omega)⟩
theorem cell_lt {w : World} {p : Addr} {v : Value} (h : w.cell? p = some v) : p.block < w.heap.size := by
  rcases Nat.lt_or_ge p.block w.heap.size with h' | h'
  · exact h'
  · unfold World.cell? at h
    rw [Array.getElem?_eq_none h'] at h
    simp at h
def mkGo (k : List UInt8) : List KPart → List UInt8 × Int
  | [] => (k, 0)
  | p :: l => if (pbytes p).2 = 0 then (if 200 < k.length + (pbytes p).1.length then ([], 5) else mkGo (k ++ (pbytes p).1) l) else ([], (pbytes p).2)
theorem mkGo_bad {k : List UInt8} {p : KPart} {l : List KPart} (h : ¬ (pbytes p).2 = 0) : mkGo k (p :: l) = ([], (pbytes p).2) := by rw [mkGo, if_neg h]
theorem mkGo_long {k : List UInt8} {p : KPart} {l : List KPart} (h : (pbytes p).2 = 0) (h2 : 200 < k.length + (pbytes p).1.length) : mkGo k (p :: l) = ([], 5) := by rw [mkGo, if_pos h, if_pos h2]
theorem mkGo_on {k : List UInt8} {p : KPart} {l : List KPart} (h : (pbytes p).2 = 0) (h2 : ¬ 200 < k.length + (pbytes p).1.length) : mkGo k (p :: l) = mkGo (k ++ (pbytes p).1) l := by rw [mkGo, if_pos h, if_neg h2]
def MkJ (w : World) (l : List KPart) (x i : Value) (wr : World) : Prop :=
  ∃ (j : Nat) (k : List UInt8), j ≤ l.length ∧ k.length ≤ 200 ∧ mkGo k (l.drop j) = mkGo [] l ∧ x = .string (bs k) ∧ i = .int .i64 j ∧ Below w.heap.size w wr
theorem cell0_below {w w' : World} {v : Value} (h : w.cell? ⟨0, 0, none⟩ = some v) (hb : Below w.heap.size w w') : w'.cell? ⟨0, 0, none⟩ = some v := by
  rw [hb.cell (p := ⟨0, 0, none⟩) (cell_lt h)]; exact h
theorem ret_pair {a b : List UInt8} {x y : Int} (h : (a, x) = (b, y)) : Ending.returned (.tuple #[.string (bs a), .int .i64 x]) = .returned (.tuple #[.string (bs b), .int .i64 y]) := by
  injection h with h1 h2; rw [h1, h2]
theorem below_step {B : Nat} {w wr w1 : World} {o : Obj} (hb : Below B w wr) (h : B ≤ wr.heap.size) (hb1 : Below (wr.alloc o).heap.size (wr.alloc o) w1) : Below B w w1 :=
  (hb.alloc h o).trans (hb1.mono (by simp; omega))
set_option maxRecDepth 100000 in
set_option maxHeartbeats 2000000 in
theorem make_any {w : World} (A : Option Addr) (c : Nat) (l : List KPart) (hl : l.length ≤ 1000) (hr : PRow w A l) (hok : ∀ p ∈ l, p.ok ∧ p.s.size ≤ 9223372036854775807) (m : Int) (hm : w.cell? ⟨0, 0, none⟩ = some (.int .i64 m)) :
    Calls Tryd.prog 35 #[.slice A l.length c] w fun e w' => e = .returned (.tuple #[.string (bs (mkGo [] l).1), .int .i64 (mkGo [] l).2]) ∧ Below w.heap.size w w' := by
  have HR := Lib.hid hr
  have HM := Lib.hid hm
  have HO := Lib.hid hok
  clear hr hm hok
  go_enter Tryd.func35, Tryd.ntmps35
  go_wp2
  go_loopw [4, 11] (MkJ w l) (fun _ i _ => l.length - (intOf i).toNat)
  case atStart => exact ⟨0, [], by omega, by simp, rfl, rfl, rfl, Below.refl _ _⟩
  case round =>
    obtain ⟨j, k, hj, hk, hg, rfl, rfl, hb⟩ := hrel
    have HG := Lib.hid hg
    clear hg
    have hbz := bs_size
    have hba := bs_append
    by_cases hlt : j < l.length
    · obtain ⟨a, rfl, hab, hc⟩ := HR.out (by omega)
      obtain ⟨x0, x1, x2, x3⟩ := (hc j hlt).keep (w' := wr) fun q hq => hb.cell (by rw [hq, block_add]; exact hab)
      have hd : l.drop j = l[j] :: l.drop (j + 1) := List.drop_eq_getElem_cons hlt
      obtain ⟨hpo, hps⟩ := HO.out l[j] (List.getElem_mem hlt)
      have HP := Lib.hid hpo
      have hpl := pbytes_len l[j]
      have HD := Lib.hid hd
      clear hc hd hpo
      have hm2 := Lib.hid (cell_alloc0 (cell0_below HM.out hb) (.cells #[.int .u8 l[j].sort, .int .i64 l[j].n, .int .u64 l[j].u, .string l[j].s] 70))
      by_cases he : (pbytes l[j]).2 = 0
      · have he1 : ((pbytes l[j]).2 == 0) = true := by simpa using he
        have he2 : ((pbytes l[j]).2 != 0) = false := by simpa using he
        have HE := Lib.hid he
        clear he
        by_cases h2 : 200 < k.length + (pbytes l[j]).1.length
        · go_wp2_with (go_at_call 52; refine (bytes_any l[j] HP.out hps m hm2.out).mono ?_; rintro e w1 ⟨rfl, hb1⟩)
          go_ret2
          exact ⟨ret_pair (by rw [← HG.out, HD.out, mkGo_long HE.out h2]), below_step hb hb.size hb1⟩
        · go_wp2_with (go_at_call 52; refine (bytes_any l[j] HP.out hps m hm2.out).mono ?_; rintro e w1 ⟨rfl, hb1⟩)
          go_roundw
          case rel => exact ⟨j + 1, k ++ (pbytes l[j]).1, by omega, by rw [List.length_append]; omega, by rw [← HG.out, HD.out, mkGo_on HE.out h2], rfl, by go_num, below_step hb hb.size hb1⟩
          case measure => simp [intOf]; omega
      · have he1 : ((pbytes l[j]).2 == 0) = false := by simpa using he
        have he2 : ((pbytes l[j]).2 != 0) = true := by simpa using he
        go_wp2_with (go_at_call 52; refine (bytes_any l[j] HP.out hps m hm2.out).mono ?_; rintro e w1 ⟨rfl, hb1⟩)
        go_ret2
        exact ⟨ret_pair (by rw [← HG.out, HD.out, mkGo_bad he]), below_step hb hb.size hb1⟩
    · go_wp2
      go_ret2
      exact ⟨ret_pair (by rw [← HG.out, List.drop_of_length_le (by omega)]; rfl), hb⟩

/-! parts made -/
def kUp (n : Int) : KPart := ⟨105, n, 0, ⟨#[]⟩⟩
def kDown (n : Int) : KPart := ⟨100, n, 0, ⟨#[]⟩⟩
def kCount (u : Nat) : KPart := ⟨117, 0, u, ⟨#[]⟩⟩
def kText (s : ByteArray) : KPart := ⟨116, 0, 0, s⟩
theorem up_any (n : Int) (w : World) : Calls Tryd.prog 69 #[.int .i64 n] w fun e w' => e = .returned (.agg #[.int .u8 105, .int .i64 n, .int .u64 0, .string ⟨#[]⟩]) ∧ Below w.heap.size w w' := by
  go_enter Tryd.func69, Tryd.ntmps69
  go_wp2
  exact bodyPost_ret (v := .agg #[.int .u8 105, .int .i64 n, .int .u64 0, .string ⟨#[]⟩]) (by simp [results, Tryd.results69, go_sem]) rfl ⟨rfl, (Below.refl _ _).alloc (Nat.le_refl _) _⟩
theorem down_any (n : Int) (w : World) : Calls Tryd.prog 37 #[.int .i64 n] w fun e w' => e = .returned (.agg #[.int .u8 100, .int .i64 n, .int .u64 0, .string ⟨#[]⟩]) ∧ Below w.heap.size w w' := by
  go_enter Tryd.func37, Tryd.ntmps37
  go_wp2
  exact bodyPost_ret (v := .agg #[.int .u8 100, .int .i64 n, .int .u64 0, .string ⟨#[]⟩]) (by simp [results, Tryd.results37, go_sem]) rfl ⟨rfl, (Below.refl _ _).alloc (Nat.le_refl _) _⟩
theorem count_any (n : Nat) (w : World) : Calls Tryd.prog 70 #[.int .u64 n] w fun e w' => e = .returned (.agg #[.int .u8 117, .int .i64 0, .int .u64 n, .string ⟨#[]⟩]) ∧ Below w.heap.size w w' := by
  go_enter Tryd.func70, Tryd.ntmps70
  go_wp2
  exact bodyPost_ret (v := .agg #[.int .u8 117, .int .i64 0, .int .u64 n, .string ⟨#[]⟩]) (by simp [results, Tryd.results70, go_sem]) rfl ⟨rfl, (Below.refl _ _).alloc (Nat.le_refl _) _⟩
end Go.Proofs.YtadejeoiffaimaaDoor
namespace Go.Proofs.YtadejeoiffaimaaDoor
open Go.RowKit
open Vi

theorem conv_bytes (w : World) (s : ByteArray) : ∃ cap w', (convert 9 100 (.string s)).run Tryd.prog w = .ok (.slice (some ⟨w.heap.size, 0, none⟩) s.size cap) w' ∧ s.size ≤ cap ∧ w'.heap.size = w.heap.size + 1 ∧ Below w.heap.size w w' ∧
    (∀ j (hj : j < s.size), w'.cell? ⟨w.heap.size, j, none⟩ = some (.int .u8 (s[j].toNat : Int))) ∧ (∀ j, j < s.size → w'.frozen? ⟨w.heap.size, j, none⟩ = false) := by
  refine ⟨_, _, run_bytes_of_string w _ _ 5 s Tryd.underlying9 Tryd.underlying100 Tryd.underlying5, grownCap_ge _ _ _ _, by simp, (Below.refl _ w).drew.alloc (Nat.le_refl _) _, fun j hj => ?_, fun j hj => ?_⟩
  · exact (World.cell?_alloc_mark w.drew _ _ _ j).trans (bytesRow_at s _ j hj)
  · have h := heap_alloc_new w.drew (.cells (bytesRow s (grownCap w s.size 0 5)) 5 ((bytesRow s (grownCap w s.size 0 5)).size, (bytesRow s (grownCap w s.size 0 5)).size + 1))
    have h2 : j < (bytesRow s (grownCap w s.size 0 5)).size := (Array.getElem?_eq_some_iff.1 (bytesRow_at s (grownCap w s.size 0 5) j hj)).1
    unfold World.frozen?
    rw [show w.heap.size = w.drew.heap.size from rfl, h]
    simp; omega
theorem take_at (s : ByteArray) (k j : Nat) (hj : j < (s.extract 0 k).size) (hk : j < s.size) : (s.extract 0 k)[j] = s[j] := by
  have h1 : (s.extract 0 k).data.toList[j]? = s.data.toList[j]? := by
    rw [Lib.extract_data, List.drop_zero, Nat.sub_zero, List.getElem?_take, if_pos]
    have : (s.extract 0 k).data.toList.length = min k s.data.toList.length := by rw [Lib.extract_data, List.drop_zero, Nat.sub_zero, List.length_take]
    have h2 : j < (s.extract 0 k).data.toList.length := hj
    omega
  rw [List.getElem?_eq_getElem (show j < (s.extract 0 k).data.toList.length from hj), List.getElem?_eq_getElem (show j < s.data.toList.length from hk)] at h1
  exact Option.some.inj h1
end Go.Proofs.YtadejeoiffaimaaDoor
namespace Go.Proofs.YtadejeoiffaimaaDoor
open Go.RowKit
open Vi

theorem prow_one (w : World) (p : KPart) : PRow (w.alloc (.cells #[.int .u8 p.sort, .int .i64 p.n, .int .u64 p.u, .string p.s] 70)) (some ⟨w.heap.size, 0, none⟩) [p] := fun _ => by
  refine ⟨_, rfl, by simp, fun i hi => ?_⟩
  obtain rfl : i = 0 := by simp at hi; omega
  have h := heap_alloc_new w (.cells #[.int .u8 p.sort, .int .i64 p.n, .int .u64 p.u, .string p.s] 70)
  exact ⟨cell_in h 0 _ rfl, cell_in h 1 _ rfl, cell_in h 2 _ rfl, cell_in h 3 _ rfl⟩
theorem mkGo_one {p : KPart} (h : (pbytes p).2 = 0) (h2 : (pbytes p).1.length ≤ 200) : mkGo [] [p] = ((pbytes p).1, 0) := by
  rw [mkGo_on h (by simp; omega)]; simp [mkGo]
theorem make_one {w : World} (p : KPart) (hp : p.ok) (hs : p.s.size ≤ 9223372036854775807) (h0 : (pbytes p).2 = 0) (h2 : (pbytes p).1.length ≤ 200) (m : Int) (hm : w.cell? ⟨0, 0, none⟩ = some (.int .i64 m)) (c : Nat) :
    Calls Tryd.prog 35 #[.slice (some ⟨w.heap.size, 0, none⟩) 1 c] (w.alloc (.cells #[.int .u8 p.sort, .int .i64 p.n, .int .u64 p.u, .string p.s] 70)) fun e w' => e = .returned (.tuple #[.string (bs (pbytes p).1), .int .i64 0]) ∧ Below w.heap.size w w' := by
  have := make_any (some ⟨w.heap.size, 0, none⟩) c [p] (by simp) (prow_one w p) (by simp; exact ⟨hp, hs⟩) m (cell_alloc0 hm _)
  rw [mkGo_one h0 h2] at this
  exact this.mono fun e w' ⟨h1, hb⟩ => ⟨h1, ((Below.refl _ _).alloc (Nat.le_refl _) _).trans (hb.mono (by simp))⟩
theorem big8_up : (105 :: big8 (lift (-1)) : List UInt8) = [105, 127, 255, 255, 255, 255, 255, 255, 255] := by
  have e : lift (-1) = 9223372036854775807 := by unfold lift; decide
  rw [e]; unfold big8
  simp [little_succ, little_zero]
end Go.Proofs.YtadejeoiffaimaaDoor
namespace Go.Proofs.YtadejeoiffaimaaDoor
open Go.RowKit

theorem bl_nil (l : List UInt8) : Op.bytesLess l [] = false := by cases l <;> rfl
theorem bl_first (y : UInt8) (l : List UInt8) : Op.bytesLess [] (y :: l) = true := rfl
theorem bl_lt {x y : UInt8} (h : x.toNat < y.toNat) (l k : List UInt8) : Op.bytesLess (x :: l) (y :: k) = true := by
  have : x < y := UInt8.lt_iff_toNat_lt.2 h
  simp [Op.bytesLess, this]
theorem bl_gt {x y : UInt8} (h : y.toNat < x.toNat) (l k : List UInt8) : Op.bytesLess (x :: l) (y :: k) = false := by
  have h1 : ¬ x < y := fun e => by have := UInt8.lt_iff_toNat_lt.1 e; omega
  have h2 : ¬ x = y := fun e => by subst e; omega
  simp [Op.bytesLess, h1, h2]
theorem bl_eq (x : UInt8) (l k : List UInt8) : Op.bytesLess (x :: l) (x :: k) = Op.bytesLess l k := by
  have h1 : ¬ x < x := fun e => by have := UInt8.lt_iff_toNat_lt.1 e; omega
  simp [Op.bytesLess, h1]
theorem pre_ne {x y : UInt8} (h : ¬ x = y) (l k : List UInt8) : (x :: l).isPrefixOf (y :: k) = false := by simp [List.isPrefixOf, h]
theorem pre_eq (x : UInt8) (l k : List UInt8) : (x :: l).isPrefixOf (x :: k) = l.isPrefixOf k := by simp [List.isPrefixOf]
theorem toNat_ne {x y : UInt8} (h : ¬ x.toNat = y.toNat) : ¬ x = y := fun e => h (by rw [e])
theorem toNat_eq {x y : UInt8} (h : x.toNat = y.toNat) : x = y := UInt8.toNat_inj.1 h
theorem after_l1 : ∀ (p t : List UInt8), (∀ c ∈ p, c.toNat = 255) → (!Op.bytesLess t p) = p.isPrefixOf t
  | [], t, _ => by rw [bl_nil]; simp
  | x :: p, [], _ => by rw [bl_first]; rfl
  | x :: p, y :: t, h => by
    have hx := h x (by simp)
    have hy := y.toNat_lt
    by_cases e : y.toNat = 255
    · obtain rfl : y = x := toNat_eq (by omega)
      rw [bl_eq, pre_eq]
      exact after_l1 p t (fun c hc => h c (by simp [hc]))
    · rw [bl_lt (by omega), pre_ne (toNat_ne (by omega))]; rfl
theorem after_l2 (c d : UInt8) (hd : d.toNat = c.toNat + 1) (ff : List UInt8) (hf : ∀ c ∈ ff, c.toNat = 255) : ∀ (q t : List UInt8), (!Op.bytesLess t (q ++ c :: ff) && Op.bytesLess t (q ++ [d])) = (q ++ c :: ff).isPrefixOf t
  | [], [] => by rw [List.nil_append, bl_first]; rfl
  | [], y :: t => by
    rw [List.nil_append, List.nil_append]
    by_cases h1 : y.toNat < c.toNat
    · rw [bl_lt h1, pre_ne (toNat_ne (by omega))]; rfl
    · by_cases h2 : y.toNat = c.toNat
      · obtain rfl : y = c := toNat_eq h2
        rw [bl_eq, pre_eq, bl_lt (by omega), Bool.and_true, after_l1 ff t hf]
      · have h3 : Op.bytesLess (y :: t) [d] = false := by
          by_cases h4 : y.toNat = d.toNat
          · obtain rfl : y = d := toNat_eq h4
            rw [bl_eq, bl_nil]
          · rw [bl_gt (by omega)]
        rw [h3, pre_ne (toNat_ne (by omega)), Bool.and_false]
  | x :: q, [] => by rw [List.cons_append, bl_first]; rfl
  | x :: q, y :: t => by
    rw [List.cons_append, List.cons_append]
    by_cases h1 : y.toNat < x.toNat
    · rw [bl_lt h1, pre_ne (toNat_ne (by omega))]; rfl
    · by_cases h2 : y.toNat = x.toNat
      · obtain rfl : y = x := toNat_eq h2
        rw [bl_eq, bl_eq, pre_eq, after_l2 c d hd ff hf q t]
      · rw [bl_gt (show x.toNat < y.toNat by omega) t (q ++ [d]), pre_ne (toNat_ne (by omega)), Bool.and_false]
theorem pre_app : ∀ (p s : List UInt8), p.isPrefixOf (p ++ s) = true
  | [], s => by simp
  | x :: p, s => by rw [List.cons_append, pre_eq]; exact pre_app p s
theorem bl_app : ∀ (p s : List UInt8), Op.bytesLess (p ++ s) p = false
  | [], s => bl_nil _
  | x :: p, s => by rw [List.cons_append, bl_eq]; exact bl_app p s
/-- where the last byte below 255 stands -/
theorem last_below (p : ByteArray) : (∀ i (hi : i < p.size), p[i].toNat = 255) ∨ ∃ k, ∃ hk : k < p.size, p[k].toNat < 255 ∧ ∀ i (hi : i < p.size), k < i → p[i].toNat = 255 := by
  have key : ∀ n, n ≤ p.size → (∀ i (hi : i < p.size), n ≤ i → p[i].toNat = 255) → (∀ i (hi : i < p.size), p[i].toNat = 255) ∨ ∃ k, ∃ hk : k < p.size, p[k].toNat < 255 ∧ ∀ i (hi : i < p.size), k < i → p[i].toNat = 255 := by
    intro n
    induction n with
    | zero => intro _ h; exact .inl fun i hi => h i hi (Nat.zero_le _)
    | succ n ih =>
      intro hn h
      have hl := p[n].toNat_lt
      by_cases e : p[n].toNat = 255
      · exact ih (by omega) fun i hi hni => by
          by_cases e2 : i = n
          · subst e2; exact e
          · exact h i hi (by omega)
      · exact .inr ⟨n, by omega, by omega, fun i hi hni => h i hi (by omega)⟩
  exact key p.size (Nat.le_refl _) fun i hi h => by omega
end Go.Proofs.YtadejeoiffaimaaDoor
namespace Go.Proofs.YtadejeoiffaimaaDoor
open Go.RowKit
open Vi

theorem big_rev_cons (x : UInt8) (l : List UInt8) : big (x :: l).reverse = big l.reverse + 256 ^ l.length * x.toNat := by
  rw [List.reverse_cons, big_snoc, List.length_reverse]
theorem big_rev_lt (l : List UInt8) : big l.reverse < 256 ^ l.length := by
  have := big_lt l.reverse; rwa [List.length_reverse] at this
theorem bl_big : ∀ (a b : List UInt8), a.length = b.length → Op.bytesLess a b = decide (big a.reverse < big b.reverse)
  | [], [], _ => by rw [bl_nil]; simp
  | x :: a, y :: b, h => by
    have hl : a.length = b.length := by simpa using h
    have h1 := big_rev_lt a
    have h2 := big_rev_lt b
    rw [big_rev_cons, big_rev_cons, hl]
    rw [hl] at h1
    by_cases hlt : x.toNat < y.toNat
    · have := Nat.mul_le_mul_left (256 ^ b.length) (show x.toNat + 1 ≤ y.toNat from hlt)
      rw [Nat.mul_add, Nat.mul_one] at this
      rw [bl_lt hlt]; symm; simp; omega
    · by_cases he : x.toNat = y.toNat
      · obtain rfl : x = y := toNat_eq he
        rw [bl_eq, bl_big a b hl]
        simp
      · have := Nat.mul_le_mul_left (256 ^ b.length) (show y.toNat + 1 ≤ x.toNat by omega)
        rw [Nat.mul_add, Nat.mul_one] at this
        rw [bl_gt (by omega)]; symm; simp; omega
theorem bl_big8 {x y : Nat} (hx : x < 18446744073709551616) (hy : y < 18446744073709551616) : Op.bytesLess (big8 x) (big8 y) = decide (x < y) := by
  rw [bl_big _ _ (by rw [big8_len, big8_len])]
  unfold big8
  rw [List.reverse_reverse, List.reverse_reverse, big_little 8 x (Nat.lt_of_lt_of_le hx (by decide)), big_little 8 y (Nat.lt_of_lt_of_le hy (by decide))]
theorem esc_cons0 (l : List UInt8) : esc (0 :: l) = 0 :: 255 :: esc l := by simp [esc]
theorem esc_cons {c : UInt8} (h : ¬ c = 0) (l : List UInt8) : esc (c :: l) = c :: esc l := by simp [esc, h]
theorem nz {c : UInt8} (h : ¬ c = 0) : (0 : UInt8).toNat < c.toNat := by
  rcases Nat.eq_zero_or_pos c.toNat with e | e
  · exact absurd (toNat_eq (y := 0) e) h
  · exact e
theorem bl_esc : ∀ (s t : List UInt8), Op.bytesLess (esc s ++ [0, 0]) (esc t ++ [0, 0]) = Op.bytesLess s t
  | [], [] => rfl
  | [], d :: t => by
    by_cases hd : d = 0
    · subst hd; rw [esc_cons0]; simp only [esc, List.nil_append, List.cons_append]; rw [bl_eq, bl_lt (by decide), bl_first]
    · rw [esc_cons hd]; simp only [esc, List.nil_append, List.cons_append]; rw [bl_lt (nz hd), bl_first]
  | c :: s, [] => by
    rw [bl_nil]
    by_cases hc : c = 0
    · subst hc; rw [esc_cons0]; simp only [esc, List.nil_append, List.cons_append]; rw [bl_eq, bl_gt (by decide)]
    · rw [esc_cons hc]; simp only [esc, List.nil_append, List.cons_append]; rw [bl_gt (nz hc)]
  | c :: s, d :: t => by
    by_cases hc : c = 0
    · subst hc
      by_cases hd : d = 0
      · subst hd
        rw [esc_cons0, esc_cons0, List.cons_append, List.cons_append, List.cons_append, List.cons_append, bl_eq, bl_eq, bl_eq]; exact bl_esc s t
      · rw [esc_cons0, esc_cons hd]; simp only [List.cons_append]; rw [bl_lt (nz hd), bl_lt (nz hd)]
    · by_cases hd : d = 0
      · subst hd
        rw [esc_cons0, esc_cons hc]; simp only [List.cons_append]; rw [bl_gt (nz hc), bl_gt (nz hc)]
      · rw [esc_cons hc, esc_cons hd, List.cons_append, List.cons_append]
        by_cases h1 : c.toNat < d.toNat
        · rw [bl_lt h1, bl_lt h1]
        · by_cases h2 : c.toNat = d.toNat
          · obtain rfl : c = d := toNat_eq h2
            rw [bl_eq, bl_eq]; exact bl_esc s t
          · rw [bl_gt (by omega), bl_gt (by omega)]

theorem ktext_any (s : ByteArray) (hs : s.size ≤ 281474976710656) (w : World) : Calls Tryd.prog 36 #[.string s] w fun e w' => e = .returned (.agg #[.int .u8 116, .int .i64 0, .int .u64 0, .string s]) ∧ Below w.heap.size w w' := by
  have HS := Lib.hid hs
  clear hs
  go_enter Tryd.func36, Tryd.ntmps36
  go_wp2_with (go_at_call 24; with_reducible refine (clone_any s _ HS).mono ?_; rintro e w1 ⟨rfl, hb⟩; have hB := (hb.block w.heap.size (by simp)).trans (heap_alloc_new w _); have c0 := cell_in hB 0 _ rfl; have c1 := cell_in hB 1 _ rfl; have c2 := cell_in hB 2 _ rfl; have c3 := cell_in hB 3 _ rfl; have f0 := free_in hB 0; have f1 := free_in hB 1; have f2 := free_in hB 2; have f3 := free_in hB 3; have HB := Lib.hid hB; clear hB)
  have r0 := heap_set (heap_set (heap_set (heap_set HB.out 0 (.int .u8 116)) 1 (.int .i64 0)) 2 (.int .u64 0)) 3 (.string s)
  have k0 := cell_in r0 0 _ rfl
  have k1 := cell_in r0 1 _ rfl
  have k2 := cell_in r0 2 _ rfl
  have k3 := cell_in r0 3 _ rfl
  exact bodyPost_ret (v := .agg #[.int .u8 116, .int .i64 0, .int .u64 0, .string s]) (by simp [results, Tryd.results36, go_sem, k0, k1, k2, k3]) rfl ⟨rfl, (((((((Below.refl _ _).alloc (Nat.le_refl _) _).trans (hb.mono (by simp))).setCell (Nat.le_refl _) _).setCell (Nat.le_refl _) _).setCell (Nat.le_refl _) _).setCell (Nat.le_refl _) _)⟩
end Go.Proofs.YtadejeoiffaimaaDoor
namespace Go.Proofs.YtadejeoiffaimaaDoor
open Go.RowKit
open Vi

def cmpI (x y : Int) : Int := if x < y then -1 else if y < x then 1 else 0
theorem cmpI_lt {x y : Int} (h : x < y) : cmpI x y = -1 := if_pos h
theorem cmpI_gt {x y : Int} (h : y < x) : cmpI x y = 1 := by unfold cmpI; rw [if_neg (by omega), if_pos h]
theorem cmpI_eq {x y : Int} (h1 : ¬ x < y) (h2 : ¬ y < x) : cmpI x y = 0 := by unfold cmpI; rw [if_neg h1, if_neg h2]
theorem nan_u64 (x : Int) (w : World) : Calls Tryd.prog 44 #[.int .u64 x] w fun e w' => e = .returned (.bool false) ∧ w = w' := by
  go_enter Tryd.func44, Tryd.ntmps44
  go_wp2
  go_ret
  exact ⟨rfl, rfl⟩
theorem nan_str (s : ByteArray) (w : World) : Calls Tryd.prog 43 #[.string s] w fun e w' => e = .returned (.bool false) ∧ w = w' := by
  go_enter Tryd.func43, Tryd.ntmps43
  go_wp2
  go_ret
  exact ⟨rfl, rfl⟩
theorem cmp_u64 (x y : Int) (w : World) : Calls Tryd.prog 27 #[.int .u64 x, .int .u64 y] w fun e w' => e = .returned (.int .i64 (cmpI x y)) ∧ w = w' := by
  rcases Int.lt_trichotomy x y with h | h | h
  · rw [cmpI_lt h]
    go_enter Tryd.func27, Tryd.ntmps27
    go_wp2_with (go_at_call 44; refine (nan_u64 _ _).mono ?_; rintro e w' ⟨rfl, rfl⟩)
    go_ret
    exact ⟨rfl, rfl⟩
  · subst h
    rw [cmpI_eq (by omega) (by omega)]
    go_enter Tryd.func27, Tryd.ntmps27
    go_wp2_with (go_at_call 44; refine (nan_u64 _ _).mono ?_; rintro e w' ⟨rfl, rfl⟩)
    go_ret
    exact ⟨rfl, rfl⟩
  · rw [cmpI_gt h]
    go_enter Tryd.func27, Tryd.ntmps27
    go_wp2_with (go_at_call 44; refine (nan_u64 _ _).mono ?_; rintro e w' ⟨rfl, rfl⟩)
    go_ret
    exact ⟨rfl, rfl⟩

def cmpS (x y : List UInt8) : Int := if Op.bytesLess x y = true then -1 else if x = y then 0 else 1
theorem bl_irrefl : ∀ l : List UInt8, Op.bytesLess l l = false
  | [] => rfl
  | x :: l => by rw [bl_eq]; exact bl_irrefl l
theorem cmp_str (x y : List UInt8) (w : World) : Calls Tryd.prog 26 #[.string (bs x), .string (bs y)] w fun e w' => e = .returned (.int .i64 (cmpS x y)) ∧ w = w' := by
  have hbl := bs_list
  by_cases h : Op.bytesLess x y = true
  · rw [show cmpS x y = -1 from if_pos h]
    go_enter Tryd.func26, Tryd.ntmps26
    go_wp2_with (go_at_call 43; refine (nan_str _ _).mono ?_; rintro e w' ⟨rfl, rfl⟩)
    go_ret
    exact ⟨rfl, rfl⟩
  · have h' : Op.bytesLess x y = false := by simpa using h
    by_cases he : x = y
    · rw [show cmpS x y = 0 by unfold cmpS; rw [if_neg h, if_pos he]]
      subst he
      go_enter Tryd.func26, Tryd.ntmps26
      go_wp2_with (go_at_call 43; refine (nan_str _ _).mono ?_; rintro e w' ⟨rfl, rfl⟩)
      go_ret
      exact ⟨rfl, rfl⟩
    · rw [show cmpS x y = 1 by unfold cmpS; rw [if_neg h, if_neg he]]
      have he' : (x == y) = false := by simpa using he
      clear h he
      go_enter Tryd.func26, Tryd.ntmps26
      go_wp2_with (go_at_call 43; refine (nan_str _ _).mono ?_; rintro e w' ⟨rfl, rfl⟩)
      go_ret
      exact ⟨rfl, rfl⟩
theorem cmp_str_at (x y : ByteArray) (w : World) : Calls Tryd.prog 26 #[.string x, .string y] w fun e w' => e = .returned (.int .i64 (cmpS x.data.toList y.data.toList)) ∧ w = w' := by
  have := cmp_str x.data.toList y.data.toList w
  rw [bs_of, bs_of] at this; exact this
def pcmp (p q : KPart) : Int :=
  if p.sort = q.sort then (if p.sort = 105 then cmpI p.n q.n else if p.sort = 100 then cmpI q.n p.n else if p.sort = 117 then cmpI p.u q.u else if p.sort = 116 then cmpS p.s.data.toList q.s.data.toList else 0) else cmpI p.sort q.sort
end Go.Proofs.YtadejeoiffaimaaDoor
namespace Go.Proofs.YtadejeoiffaimaaDoor
open Go.RowKit
open Vi

def pless : List KPart → List KPart → Bool
  | _, [] => false
  | [], _ :: _ => true
  | x :: a, y :: b => if pcmp x y = 0 then pless a b else decide (pcmp x y < 0)
theorem pless_nil (a : List KPart) : pless a [] = false := by cases a <;> rfl
theorem pless_first (y : KPart) (b : List KPart) : pless [] (y :: b) = true := rfl
theorem pless_on {x y : KPart} (h : pcmp x y = 0) (a b : List KPart) : pless (x :: a) (y :: b) = pless a b := by rw [pless, if_pos h]
theorem pless_off {x y : KPart} (h : ¬ pcmp x y = 0) (a b : List KPart) : pless (x :: a) (y :: b) = decide (pcmp x y < 0) := by rw [pless, if_neg h]
theorem pless_len {a b : List KPart} (h : min a.length b.length = 0) : pless a b = decide (a.length < b.length) := by
  match a, b with
  | a, [] => rw [pless_nil]; simp
  | [], y :: b => rw [pless_first]; simp
  | x :: a, y :: b => simp at h
def LsJ (w : World) (la lb : List KPart) (i : Value) (wr : World) : Prop :=
  ∃ j : Nat, j ≤ la.length ∧ j ≤ lb.length ∧ pless (la.drop j) (lb.drop j) = pless la lb ∧ i = .int .i64 j ∧ Below w.heap.size w wr
/-! light: is a row gone through here? -/
def LiJ (w : World) (l : List KPart) (i : Value) (wr : World) : Prop :=
  ∃ j : Nat, j ≤ l.length ∧ (∀ k (h : k < l.length), k < j → l[k].s.size ≤ 300) ∧ (0 < j → l.length ≤ 30) ∧ i = .int .i64 j ∧ Below w.heap.size w wr
def Light (l : List KPart) : Prop := (0 < l.length → l.length ≤ 30) ∧ ∀ k (h : k < l.length), l[k].s.size ≤ 300
end Go.Proofs.YtadejeoiffaimaaDoor
namespace Go.Proofs.YtadejeoiffaimaaDoor
open Go.RowKit
open Vi

theorem partHeld : Tryd.prog.stoodInHeld 70 = false := by kernel_rfl
theorem partGuard : Tryd.prog.eqGuardType Tryd.prog.depth 70 = false := by kernel_rfl
def pneq (p q : KPart) : Bool := !(((p.sort : Int) == q.sort) && ((p.n == q.n) && (((p.u : Int) == q.u) && (p.s.toList == q.s.toList))))
theorem neq_part (p q : KPart) (w : World) : (binOp .neq 70 (.agg #[.int .u8 p.sort, .int .i64 p.n, .int .u64 p.u, .string p.s]) (.agg #[.int .u8 q.sort, .int .i64 q.n, .int .u64 q.u, .string q.s])).run Tryd.prog w =
    .ok (.bool (pneq p q)) w := by
  rw [run_neq_struct, run_equalIn_struct w 9999 _ _ _ (by kernel_rfl) partHeld]
  have hf : (Tryd.prog.fieldsOf 70).toList.map (fun f => (f.name, f.type, f.offset)) = [("Sort", 5, 0), ("N", 2, 1), ("U", 23, 2), ("S", 9, 3)] := by kernel_rfl
  generalize (Tryd.prog.fieldsOf 70).toList = fs at hf
  have hl : fs.length = 4 := by have := congrArg List.length hf; simpa using this
  match fs, hl, hf with
  | [f0, f1, f2, f3], _, hf =>
    simp only [List.map_cons, List.map_nil, List.cons.injEq, Prod.mk.injEq, and_true] at hf
    obtain ⟨⟨a0, b0, c0⟩, ⟨a1, b1, c1⟩, ⟨a2, b2, c2⟩, ⟨a3, b3, c3⟩⟩ := hf
    simp [Op.eqFields, a0, a1, a2, a3, b0, b1, b2, b3, c0, c1, c2, c3, part, go_sem, Tryd.underlying5, Tryd.underlying2, Tryd.underlying23, Tryd.underlying9]
    unfold pneq
    by_cases h0 : (p.sort : Int) = q.sort
    · by_cases h1 : p.n = q.n
      · by_cases h2 : (p.u : Int) = q.u
        · by_cases h3 : p.s.toList = q.s.toList <;> simp [h0, h1, h2, h3]
        · simp [h0, h1, h2]
      · simp [h0, h1]
    · simp [h0]
theorem pneq_false {p q : KPart} (h : p = q) : pneq p q = false := by subst h; simp [pneq]
theorem pneq_true {p q : KPart} (h : ¬ p = q) : pneq p q = true := by
  rcases Bool.eq_false_or_eq_true (pneq p q) with e | e
  · exact e
  · exfalso
    apply h
    obtain ⟨a, b, c, d⟩ := p
    obtain ⟨a', b', c', d'⟩ := q
    simp only [pneq, Bool.not_eq_false', Bool.and_eq_true, beq_iff_eq] at e
    obtain ⟨e1, e2, e3, e4⟩ := e
    have e4' : d = d' := by rw [← bs_of d, ← bs_of d', ← Lib.toList_data, ← Lib.toList_data, e4]
    have e1' : a = a' := by omega
    have e3' : c = c' := by omega
    rw [e1', e2, e3', e4']
def SmJ (w : World) (la lb : List KPart) (i : Value) (wr : World) : Prop :=
  ∃ j n : Nat, j ≤ la.length ∧ (∀ k (h : k < la.length) (h' : k < lb.length), k < j → la[k] = lb[k]) ∧ i = .int .i64 j ∧ wr = w.drewN n
end Go.Proofs.YtadejeoiffaimaaDoor
namespace Go.Proofs.YtadejeoiffaimaaDoor
open Go.RowKit
open Vi

/-- a text, and what is behind it -/
def unesc : List UInt8 → Option (List UInt8 × List UInt8)
  | [] => none
  | c :: l => if c = 0 then (match l with
      | [] => none
      | d :: r => if d = 0 then some ([], r) else if d = 255 then (unesc r).map (fun x => (0 :: x.1, x.2)) else none)
    else (unesc l).map (fun x => (c :: x.1, x.2))
theorem unesc_other {c : UInt8} (h : ¬ c = 0) (l : List UInt8) : unesc (c :: l) = (unesc l).map (fun x => (c :: x.1, x.2)) := by
  conv => lhs; unfold unesc
  rw [if_neg h]
theorem unesc_end (r : List UInt8) : unesc (0 :: 0 :: r) = some ([], r) := by unfold unesc; simp
theorem unesc_on (r : List UInt8) : unesc (0 :: 255 :: r) = (unesc r).map (fun x => (0 :: x.1, x.2)) := by
  conv => lhs; unfold unesc
  simp
theorem unesc_stop : unesc [0] = none := by unfold unesc; simp
theorem unesc_bad {d : UInt8} (h1 : ¬ d = 0) (h2 : ¬ d = 255) (r : List UInt8) : unesc (0 :: d :: r) = none := by
  unfold unesc; simp [h1, h2]
/-- what is ahead of the first byte 0, and what is behind it -/
def cut0 (l : List UInt8) : List UInt8 × List UInt8 := ((Lib.cut l [0]).1, (Lib.cut l [0]).2.1)
theorem cut0_nil : cut0 [] = ([], []) := rfl
theorem cut0_zero (l : List UInt8) : cut0 (0 :: l) = ([], l) := by
  unfold cut0 Lib.cut; rw [idx_zero]; simp
theorem cut0_other {c : UInt8} (h : ¬ c = 0) (l : List UInt8) : cut0 (c :: l) = (c :: (cut0 l).1, (cut0 l).2) := by
  unfold cut0 Lib.cut
  rw [idx_other h]
  have h0 := Lib.index_ge l [0]
  by_cases hi : Lib.index l [0] = -1
  · simp [hi]
  · have e : (Lib.index l [0] + 1).toNat = (Lib.index l [0]).toNat + 1 := by omega
    have h1 : ¬ (Lib.index l [0] == -1) = true := by simpa using hi
    rw [if_neg h1, if_pos (show 0 ≤ Lib.index l [0] + 1 by omega), if_pos (show 0 ≤ Lib.index l [0] by omega), e]
    simp [Nat.add_right_comm]
def ahead (a : List UInt8) (o : Option (List UInt8 × List UInt8)) : Option (List UInt8 × List UInt8) := o.map fun x => (a ++ x.1, x.2)
theorem ahead_nil (o : Option (List UInt8 × List UInt8)) : ahead [] o = o := by cases o <;> rfl
theorem ahead_ahead (a b : List UInt8) (o : Option (List UInt8 × List UInt8)) : ahead a (ahead b o) = ahead (a ++ b) o := by cases o <;> simp [ahead]
theorem ahead_none (a : List UInt8) : ahead a none = none := rfl
/-- what follows the byte 0 -/
def onward : List UInt8 → Option (List UInt8 × List UInt8)
  | [] => none
  | d :: r => if d = 0 then some ([], r) else if d = 255 then ahead [0] (unesc r) else none
theorem unesc_cut : ∀ l : List UInt8, unesc l = ahead (cut0 l).1 (onward (cut0 l).2)
  | [] => by rw [cut0_nil]; rfl
  | c :: l => by
    by_cases hc : c = 0
    · subst hc
      rw [cut0_zero, ahead_nil]
      match l with
      | [] => exact unesc_stop
      | d :: r =>
        by_cases h0 : d = 0
        · subst h0; rw [unesc_end]; simp [onward]
        · by_cases h1 : d = 255
          · subst h1; rw [unesc_on]; simp only [onward]; rw [if_neg h0]; simp [ahead]
          · rw [unesc_bad h0 h1]; simp [onward, h0, h1]
    · rw [cut0_other hc, unesc_other hc, unesc_cut l]
      cases onward (cut0 l).2 <;> simp [ahead]
theorem cut0_len : ∀ l : List UInt8, (cut0 l).1.length + (cut0 l).2.length ≤ l.length
  | [] => by rw [cut0_nil]; simp
  | c :: l => by
    by_cases hc : c = 0
    · subst hc; rw [cut0_zero]; simp
    · have := cut0_len l; rw [cut0_other hc]; simp; omega
/-- one round of the text's loop -/
theorem cut0_shorter {l r : List UInt8} {d : UInt8} (h : (cut0 l).2 = d :: r) : r.length + 2 ≤ l.length := by
  have := cut0_len l
  rw [h] at this
  by_cases hl : l.length = r.length + 1
  · exfalso
    match l, hl with
    | c :: l', hl =>
      by_cases hc : c = 0
      · subst hc; rw [cut0_zero] at h; simp at h hl; subst h; simp at hl
      · rw [cut0_other hc] at h
        have := cut0_len l'
        simp at h
        rw [h] at this; simp at this hl; omega
  · simp at this; omega
end Go.Proofs.YtadejeoiffaimaaDoor
namespace Go.Proofs.YtadejeoiffaimaaDoor
open Go.RowKit
open Vi

/-- what first and firstText answer -/
def fval (o : Option (KPart × List UInt8)) : Value := match o with
  | some x => .tuple #[.agg #[.int .u8 x.1.sort, .int .i64 x.1.n, .int .u64 x.1.u, .string x.1.s], .string (bs x.2), .bool true]
  | none => .tuple #[.agg #[.int .u8 0, .int .i64 0, .int .u64 0, .string ⟨#[]⟩], .string (bs []), .bool false]
theorem scut_any {w : World} (k : List UInt8) (hk : k.length ≤ 1000) (m : Int) (hm : w.cell? ⟨0, 0, none⟩ = some (.int .i64 m)) :
    Calls Tryd.prog 78 #[.string (bs k), .string ⟨#[0]⟩] w fun e w' => (∃ b, e = .returned (.tuple #[.string (bs (cut0 k).1), .string (bs (cut0 k).2), .bool b])) ∧ ∃ n, w' = w.drewN n :=
  (Tryd.strings_Cut (bs k) ⟨#[0]⟩ m w (by rw [bs_size]; omega) hm).mono fun _ _ ⟨h1, h2⟩ => ⟨⟨_, h1⟩, h2⟩
theorem pre_cut (c : UInt8) (l : List UInt8) (w : World) :
    Calls Tryd.prog 79 #[.string (bs l), .string ⟨#[c]⟩] w fun e w' => e = .returned (.tuple #[.string (bs (Lib.trimPrefix l [c])), .bool (Lib.hasPrefix l [c])]) ∧ w = w' :=
  (Tryd.strings_CutPrefix (bs l) ⟨#[c]⟩ w).mono fun _ _ ⟨h1, h2⟩ => ⟨h1, h2.symm⟩
theorem hp_cons (c : UInt8) (r : List UInt8) : Lib.hasPrefix (c :: r) [c] = true := by simp [Lib.hasPrefix, List.isPrefixOf]
theorem tp_cons (c : UInt8) (r : List UInt8) : Lib.trimPrefix (c :: r) [c] = r := by unfold Lib.trimPrefix; rw [hp_cons, if_pos rfl]; rfl
theorem hp_ne {c d : UInt8} (h : ¬ d = c) (r : List UInt8) : Lib.hasPrefix (d :: r) [c] = false := by simp [Lib.hasPrefix, List.isPrefixOf]; exact fun e => h e.symm
theorem hp_nil (c : UInt8) : Lib.hasPrefix [] [c] = false := rfl
def zeroPart : Array Value := #[.int .u8 0, .int .i64 0, .int .u64 0, .string ⟨#[]⟩]
def FtJ (K : List UInt8) (w : World) (k s : Value) (wr : World) : Prop :=
  ∃ (a l : List UInt8) (n : Nat), ahead a (unesc l) = unesc K ∧ a.length + l.length ≤ K.length ∧ k = .string (bs l) ∧ s = .string (bs a) ∧ wr = (w.alloc (.cells #[.int .u8 0, .int .i64 0, .int .u64 0, .string ⟨#[]⟩] 70)).drewN n
def strLen : Value → Nat
  | .string s => s.size
  | _ => 0
theorem hold_row (w : World) (n : Nat) {w2 : World} (hb : Below ((w.alloc (.cells #[.int .u8 0, .int .i64 0, .int .u64 0, .string ⟨#[]⟩] 70)).drewN n).heap.size ((w.alloc (.cells #[.int .u8 0, .int .i64 0, .int .u64 0, .string ⟨#[]⟩] 70)).drewN n) w2) :
    w2.heap[w.heap.size]? = some (.cells #[.int .u8 0, .int .i64 0, .int .u64 0, .string ⟨#[]⟩] 70 (0, 0)) :=
  (hb.block w.heap.size (by show _ < (w.alloc _).heap.size; simp)).trans (heap_alloc_new w _)
theorem ret_part {f : Func} (hf : f.results = #[.cell 2 70, .tmp 3, .tmp 4]) {R : Ending → World → Prop} {a : Act} {wf : World} {k : Nat} {n : Int} {u : Nat} {s r : ByteArray} {b : Bool} {g : Nat}
    (h2 : a.tmps.getD 2 undef = .pointer (some ⟨g, 0, none⟩)) (h3 : a.tmps.getD 3 undef = .string r) (h4 : a.tmps.getD 4 undef = .bool b) (hd : a.defers = [])
    (hrow : wf.heap[g]? = some (.cells #[.int .u8 k, .int .i64 n, .int .u64 u, .string s] 70 (0, 0)))
    (hR : R (.returned (.tuple #[.agg #[.int .u8 k, .int .i64 n, .int .u64 u, .string s], .string r, .bool b])) wf) : bodyPost Tryd.prog f R .ret a wf := by
  have k0 := cell_in hrow 0 _ rfl
  have k1 := cell_in hrow 1 _ rfl
  have k2 := cell_in hrow 2 _ rfl
  have k3 := cell_in hrow 3 _ rfl
  have g2 : a.tmps[2]?.getD undef = .pointer (some ⟨g, 0, none⟩) := by simpa using h2
  have g3 : a.tmps[3]?.getD undef = .string r := by simpa using h3
  have g4 : a.tmps[4]?.getD undef = .bool b := by simpa using h4
  exact bodyPost_ret (v := .tuple #[.agg #[.int .u8 k, .int .i64 n, .int .u64 u, .string s], .string r, .bool b]) (by simp [results, hf, g2, g3, g4, go_sem, k0, k1, k2, k3]) hd hR
theorem row_draw (w : World) (n : Nat) : ((w.alloc (.cells #[.int .u8 0, .int .i64 0, .int .u64 0, .string ⟨#[]⟩] 70)).drewN n).heap[w.heap.size]? = some (.cells #[.int .u8 0, .int .i64 0, .int .u64 0, .string ⟨#[]⟩] 70 (0, 0)) := heap_alloc_new w _
theorem below_draw (w : World) (n : Nat) (o : Obj) : Below w.heap.size w ((w.alloc o).drewN n) := by
  have h := (Below.refl w.heap.size w).alloc (Nat.le_refl _) o
  exact ⟨h.os, h.tape, h.output, h.size, h.block⟩
theorem below_sets {w wr : World} {g : Nat} {v0 v1 v2 v3 : Value} (h : Below g w wr) : Below g w ((((wr.setCell ⟨g, 0, none⟩ v0).setCell ⟨g, 1, none⟩ v1).setCell ⟨g, 2, none⟩ v2).setCell ⟨g, 3, none⟩ v3) :=
  (((h.setCell (Nat.le_refl _) _).setCell (Nat.le_refl _) _).setCell (Nat.le_refl _) _).setCell (Nat.le_refl _) _
theorem row_sets {wr : World} {g : Nat} {c : Array Value} (h : wr.heap[g]? = some (.cells c 70 (0, 0))) (hc : c.size = 4) (v0 v1 v2 v3 : Value) :
    ((((wr.setCell ⟨g, 0, none⟩ v0).setCell ⟨g, 1, none⟩ v1).setCell ⟨g, 2, none⟩ v2).setCell ⟨g, 3, none⟩ v3).heap[g]? = some (.cells #[v0, v1, v2, v3] 70 (0, 0)) := by
  rw [heap_set (heap_set (heap_set (heap_set h 0 v0) 1 v1) 2 v2) 3 v3]
  obtain ⟨l⟩ := c
  match l, hc with
  | [a, b, d, e], _ => rfl
set_option maxRecDepth 100000 in
set_option maxHeartbeats 2000000 in
theorem firstText_any {w : World} (K : List UInt8) (hK : K.length ≤ 1000) (m : Int) (hm : w.cell? ⟨0, 0, none⟩ = some (.int .i64 m)) :
    Calls Tryd.prog 64 #[.string (bs K)] w fun e w' => e = .returned (fval ((unesc K).map fun x => (kText (bs x.1), x.2))) ∧ Below w.heap.size w w' := by
  have HM := Lib.hid (cell_alloc0 hm (.cells #[.int .u8 0, .int .i64 0, .int .u64 0, .string ⟨#[]⟩] 70))
  clear hm
  have hbz := bs_size
  have hba := bs_append
  have hc0 : ∀ l : List UInt8, bs l ++ ByteArray.mk #[0] = bs (l ++ [0]) := fun l => bs_append l [0]
  go_enter Tryd.func64, Tryd.ntmps64
  go_wp2
  go_loopw [0, 5] (FtJ K w) (fun k _ _ => strLen k)
  case atStart => exact ⟨[], K, 0, ahead_nil _, by simp, rfl, rfl, rfl⟩
  case round =>
    obtain ⟨a, l, n, hu, hl, rfl, rfl, rfl⟩ := hrel
    have hcl := cut0_len l
    rw [unesc_cut l, ahead_ahead] at hu
    have HM2 : Hid (((w.alloc (.cells #[.int .u8 0, .int .i64 0, .int .u64 0, .string ⟨#[]⟩] 70)).drewN n).cell? ⟨0, 0, none⟩ = some (.int .i64 m)) := HM.out
    have hcut := Lib.hid (scut_any l (by omega) m HM2.out)
    have hshort : ∀ d r, (cut0 l).2 = d :: r → r.length + 2 ≤ l.length := fun d r h => cut0_shorter h
    generalize cut0 l = x at hu hcl hcut hshort
    obtain ⟨p, q⟩ := x
    simp only [] at hu hcl hshort
    match q with
    | [] =>
      have HU := Lib.hid hu
      have h1 := hp_nil 0
      have h2 := hp_nil 255
      clear hu hshort
      go_wp2_with (first
        | (go_at_call 78; refine hcut.out.mono ?_; rintro e w1 ⟨⟨b, rfl⟩, n1, rfl⟩)
        | (go_at_call 79; refine (pre_cut _ _ _).mono ?_; rintro e w' ⟨rfl, rfl⟩)
        | (go_at_call 36; refine (ktext_any (bs (a ++ p)) (by rw [bs_size, List.length_append]; omega) _).mono ?_; rintro e w2 ⟨rfl, hb2⟩; have hB2 := hold_row w (n + n1) hb2; have c0 := cell_in hB2 0 _ rfl; have c1 := cell_in hB2 1 _ rfl; have c2 := cell_in hB2 2 _ rfl; have c3 := cell_in hB2 3 _ rfl; have f0 := free_in hB2 0; have f1 := free_in hB2 1; have f2 := free_in hB2 2; have f3 := free_in hB2 3; have HB2 := Lib.hid hB2; clear hB2))
      exact ret_part rfl rfl rfl rfl rfl (row_sets (row_draw w _) rfl _ _ _ _) ⟨by rw [← HU.out]; rfl, below_sets (below_draw w _ _)⟩
    | d :: r =>
      have hsh := hshort d r rfl
      clear hshort
      by_cases h0 : d = 0
      · subst h0
        have h1 := hp_cons 0 r
        have h2 := tp_cons 0 r
        have HU : Hid (unesc K = some (a ++ p, r)) := by show _ = _; rw [← hu]; simp [onward, ahead]
        clear hu
        go_wp2_with (first
        | (go_at_call 78; refine hcut.out.mono ?_; rintro e w1 ⟨⟨b, rfl⟩, n1, rfl⟩)
        | (go_at_call 79; refine (pre_cut _ _ _).mono ?_; rintro e w' ⟨rfl, rfl⟩)
        | (go_at_call 36; refine (ktext_any (bs (a ++ p)) (by rw [bs_size, List.length_append]; omega) _).mono ?_; rintro e w2 ⟨rfl, hb2⟩; have hB2 := hold_row w (n + n1) hb2; have c0 := cell_in hB2 0 _ rfl; have c1 := cell_in hB2 1 _ rfl; have c2 := cell_in hB2 2 _ rfl; have c3 := cell_in hB2 3 _ rfl; have f0 := free_in hB2 0; have f1 := free_in hB2 1; have f2 := free_in hB2 2; have f3 := free_in hB2 3; have HB2 := Lib.hid hB2; clear hB2))
        exact ret_part rfl rfl rfl rfl rfl (row_sets HB2.out rfl _ _ _ _) ⟨by rw [HU.out]; rfl, below_sets ((below_draw w (n + n1) _).trans (hb2.mono (below_draw w (n + n1) _).size))⟩
      · by_cases h5 : d = 255
        · subst h5
          have h1 := hp_ne (c := 0) (d := 255) (by decide) r
          have h2 := hp_cons 255 r
          have h3 := tp_cons 255 r
          have HU : Hid (ahead (a ++ p ++ [0]) (unesc r) = unesc K) := by show _ = _; rw [← hu]; simp only [onward]; simp only [h0, if_false, if_true, ahead_ahead]
          clear hu h0
          go_wp2_with (first
        | (go_at_call 78; refine hcut.out.mono ?_; rintro e w1 ⟨⟨b, rfl⟩, n1, rfl⟩)
        | (go_at_call 79; refine (pre_cut _ _ _).mono ?_; rintro e w' ⟨rfl, rfl⟩)
        | (go_at_call 36; refine (ktext_any (bs (a ++ p)) (by rw [bs_size, List.length_append]; omega) _).mono ?_; rintro e w2 ⟨rfl, hb2⟩; have hB2 := hold_row w (n + n1) hb2; have c0 := cell_in hB2 0 _ rfl; have c1 := cell_in hB2 1 _ rfl; have c2 := cell_in hB2 2 _ rfl; have c3 := cell_in hB2 3 _ rfl; have f0 := free_in hB2 0; have f1 := free_in hB2 1; have f2 := free_in hB2 2; have f3 := free_in hB2 3; have HB2 := Lib.hid hB2; clear hB2))
          go_roundw
          case rel => exact ⟨a ++ p ++ [0], r, _, HU.out, by simp at hcl ⊢; omega, rfl, by simp, by first | rfl | rw [World.drewN_drewN]⟩
          case measure => simp [strLen, bs_size]; omega
        · have h1 := hp_ne h0 r
          have h2 := hp_ne h5 r
          have HU : Hid (unesc K = none) := by show _ = _; rw [← hu]; simp [onward, h0, h5, ahead]
          clear hu
          go_wp2_with (first
        | (go_at_call 78; refine hcut.out.mono ?_; rintro e w1 ⟨⟨b, rfl⟩, n1, rfl⟩)
        | (go_at_call 79; refine (pre_cut _ _ _).mono ?_; rintro e w' ⟨rfl, rfl⟩)
        | (go_at_call 36; refine (ktext_any (bs (a ++ p)) (by rw [bs_size, List.length_append]; omega) _).mono ?_; rintro e w2 ⟨rfl, hb2⟩; have hB2 := hold_row w (n + n1) hb2; have c0 := cell_in hB2 0 _ rfl; have c1 := cell_in hB2 1 _ rfl; have c2 := cell_in hB2 2 _ rfl; have c3 := cell_in hB2 3 _ rfl; have f0 := free_in hB2 0; have f1 := free_in hB2 1; have f2 := free_in hB2 2; have f3 := free_in hB2 3; have HB2 := Lib.hid hB2; clear hB2))
          exact ret_part rfl rfl rfl rfl rfl (row_sets (row_draw w _) rfl _ _ _ _) ⟨by rw [HU.out]; rfl, below_sets (below_draw w _ _)⟩
end Go.Proofs.YtadejeoiffaimaaDoor
namespace Go.Proofs.YtadejeoiffaimaaDoor
open Go.RowKit
open Vi

/-- the number of eight bytes, the highest first -/
def be8 (l : List UInt8) : Nat := rev8 (big (l.take 8))
theorem be8_lt (l : List UInt8) : be8 l < 18446744073709551616 := rev8_lt _
/-- the part that bytes begin with, and what is behind it -/
def pfirst : List UInt8 → Option (KPart × List UInt8)
  | [] => none
  | c :: l => if c = 116 then (unesc l).map (fun x => (kText (bs x.1), x.2)) else if l.length < 8 then none
    else if c = 105 then some (kUp ((be8 l : Int) - 9223372036854775808), l.drop 8) else if c = 100 then some (kDown (9223372036854775807 - (be8 l : Int)), l.drop 8)
    else if c = 117 then some (kCount (be8 l), l.drop 8) else none
theorem pfirst_t (l : List UInt8) : pfirst (116 :: l) = (unesc l).map (fun x => (kText (bs x.1), x.2)) := by rw [pfirst, if_pos rfl]
theorem pfirst_short {c : UInt8} {l : List UInt8} (h : ¬ c = 116) (hl : l.length < 8) : pfirst (c :: l) = none := by rw [pfirst, if_neg h, if_pos hl]
theorem pfirst_i {l : List UInt8} (hl : ¬ l.length < 8) : pfirst (105 :: l) = some (kUp ((be8 l : Int) - 9223372036854775808), l.drop 8) := by rw [pfirst, if_neg (by decide), if_neg hl, if_pos rfl]
theorem pfirst_d {l : List UInt8} (hl : ¬ l.length < 8) : pfirst (100 :: l) = some (kDown (9223372036854775807 - (be8 l : Int)), l.drop 8) := by rw [pfirst, if_neg (by decide), if_neg hl, if_neg (by decide), if_pos rfl]
theorem pfirst_u {l : List UInt8} (hl : ¬ l.length < 8) : pfirst (117 :: l) = some (kCount (be8 l), l.drop 8) := by rw [pfirst, if_neg (by decide), if_neg hl, if_neg (by decide), if_neg (by decide), if_pos rfl]
theorem pfirst_n {c : UInt8} {l : List UInt8} (h1 : ¬ c = 116) (h2 : ¬ c = 105) (h3 : ¬ c = 100) (h4 : ¬ c = 117) : pfirst (c :: l) = none := by
  rw [pfirst, if_neg h1, if_neg h2, if_neg h3, if_neg h4]; split <;> rfl
theorem row_grown {w wr : World} {row : Option Nat} {g : Nat} {o : Obj} (h : w.heap[g]? = some o) (hg : w.grownBy wr row) (hne : some g ≠ row) : wr.heap[g]? = some o := by
  rw [hg.block g (Array.getElem?_eq_some_iff.1 h).1 hne]; exact h
theorem bytes_of_first (S : ByteArray) (h : 0 < S.size) : S.data.toList = S[0] :: S.data.toList.drop 1 := by
  have := drop_at S 0 h
  rwa [List.drop_zero] at this
theorem ext_from (S : ByteArray) (k : Nat) : S.extract k S.size = bs (S.data.toList.drop k) := by
  rw [Lib.extract_eq, List.take_of_length_le (by rw [List.length_drop]; exact Nat.le_refl _)]; rfl
theorem first_below {w w1 w2 : World} {o : Obj} (b1 : Below (w.alloc o).heap.size (w.alloc o) w1) (g2 : w1.grownBy w2 (some (w.heap.size + 1))) : Below w.heap.size w w2 := by
  have h0 := (Below.refl w.heap.size w).alloc (Nat.le_refl _) o
  have h1 := h0.trans (b1.mono h0.size)
  refine h1.trans ⟨g2.os, g2.tape, g2.output, g2.size, fun k hk => g2.block k (Nat.lt_of_lt_of_le hk h1.size) ?_⟩
  intro e; cases e; omega
theorem wrap_up {N : Nat} (h : N < 18446744073709551616) : wrap64 (IntKind.u64.wrap ((N : Int) - 9223372036854775808)) = (N : Int) - 9223372036854775808 := by
  rw [IntKind.wrap_u64]; unfold wrap64; omega
theorem wrap_down {N : Nat} (h : N < 18446744073709551616) : wrap64 (IntKind.u64.wrap (bits .xor .u64 IntKind.u64.max (N : Int) - 9223372036854775808)) = 9223372036854775807 - (N : Int) := by
  have e : IntKind.u64.max = ((18446744073709551615 : Nat) : Int) := by decide
  rw [e, u64_xor_nat _ _ (by decide) h, Nat.xor_comm, xor_ones h, IntKind.wrap_u64]; unfold wrap64; omega
set_option maxRecDepth 100000 in
set_option maxHeartbeats 2000000 in
theorem first_short {w : World} (S : ByteArray) (hS : 0 < S.size) (hS2 : S.size ≤ 1000) (hl : S.size < 9) (k1 : ((S[0].toNat : Int) == 116) = false) (hp : Hid (pfirst S.data.toList = none)) :
    Calls Tryd.prog 60 #[.string S] w fun e w' => e = .returned (fval (pfirst S.data.toList)) ∧ Below w.heap.size w w' := by
  have x1 := ext_from S 1
  have hlz : (S.data.toList.drop 1).length = S.size - 1 := by rw [List.length_drop, size_len]
  generalize S.data.toList.drop 1 = z at x1 hlz
  have hd : dTake z 0 0 8 = ([], 0, 3) := dTake_short (.inr (by omega))
  have hbd := bs_toList
  have hbn : big [] = 0 := big_nil
  go_enter Tryd.func60, Tryd.ntmps60
  go_wp2_with (first
    | (go_at_call 65; refine (over_any _ _).mono ?_; rintro e w1 ⟨rfl, r1, b1⟩; simp only [World.alloc, Array.size_push] at r1; have R1 := Lib.hid r1; have row1 := Lib.hid ((b1.block w.heap.size (by simp)).trans (heap_alloc_new w (.cells #[.int .u8 0, .int .i64 0, .int .u64 0, .string ⟨#[]⟩] 70))); clear r1)
    | (go_at_call 66; refine (rwide_any R1.out (by rw [bs_size]; omega) (by omega)).mono ?_; rintro e w2 ⟨rfl, r2, g2⟩; simp only [hbd, hd] at r2; have R2 := Lib.hid r2; have row2 := Lib.hid (row_grown row1.out g2 (by simp)); have c0 := cell_in row2.out 0 _ rfl; have c1 := cell_in row2.out 1 _ rfl; have c2 := cell_in row2.out 2 _ rfl; have c3 := cell_in row2.out 3 _ rfl; have f0 := free_in row2.out 0; have f1 := free_in row2.out 1; have f2 := free_in row2.out 2; have f3 := free_in row2.out 3; have B2 := Lib.hid (first_below b1 g2); clear r2)
    | (go_at_call 62; refine (reverse_any _ (by simp [hbd, hd, hbn]) _).mono ?_; rintro e w' ⟨rfl, rfl⟩)
    | (go_at_call 67; refine (err_any R2.out).mono ?_; rintro e w' ⟨rfl, rfl⟩)
    | (go_at_call 68; refine (at_any R2.out).mono ?_; rintro e w' ⟨rfl, rfl⟩))
  exact ret_part rfl rfl rfl rfl rfl (row_sets row2.out rfl _ _ _ _) ⟨by rw [hp.out]; rfl, below_sets B2.out⟩
set_option maxRecDepth 100000 in
set_option maxHeartbeats 2000000 in
theorem first_none {w : World} (S : ByteArray) (hS : 0 < S.size) (hS2 : S.size ≤ 1000) (hl : 9 ≤ S.size) (k1 : ((S[0].toNat : Int) == 116) = false) (k2 : ((S[0].toNat : Int) == 105) = false) (k3 : ((S[0].toNat : Int) == 100) = false) (k4 : ((S[0].toNat : Int) == 117) = false) (hp : Hid (pfirst S.data.toList = none)) :
    Calls Tryd.prog 60 #[.string S] w fun e w' => e = .returned (fval (pfirst S.data.toList)) ∧ Below w.heap.size w w' := by
  have x1 := ext_from S 1
  have hlz : (S.data.toList.drop 1).length = S.size - 1 := by rw [List.length_drop, size_len]
  have y9 := ext_from S 9
  have hd9 : S.data.toList.drop 9 = (S.data.toList.drop 1).drop 8 := by rw [List.drop_drop]
  rw [hd9] at y9
  have hr : rev8 (big ((S.data.toList.drop 1).take 8)) = be8 (S.data.toList.drop 1) := rfl
  have hbe := be8_lt (S.data.toList.drop 1)
  have hbl : big ((S.data.toList.drop 1).take 8) < 18446744073709551616 := by
    have h := big_lt ((S.data.toList.drop 1).take 8)
    rw [List.length_take, Nat.min_eq_left (by omega)] at h
    exact h
  generalize S.data.toList.drop 1 = z at x1 hlz hr hbe hbl hp y9
  clear hd9
  have hd : dTake z 0 0 8 = (z.take 8, 8, 0) := by rw [dTake_ok (by omega) (by omega), List.drop_zero]; rfl
  generalize be8 z = N at hr hbe hp
  generalize z.drop 8 = y at y9 hp
  generalize z.take 8 = t at hd hr hbl
  have hbd := bs_toList
  go_enter Tryd.func60, Tryd.ntmps60
  go_wp2_with (first
    | (go_at_call 65; refine (over_any _ _).mono ?_; rintro e w1 ⟨rfl, r1, b1⟩; simp only [World.alloc, Array.size_push] at r1; have R1 := Lib.hid r1; have row1 := Lib.hid ((b1.block w.heap.size (by simp)).trans (heap_alloc_new w (.cells #[.int .u8 0, .int .i64 0, .int .u64 0, .string ⟨#[]⟩] 70))); clear r1)
    | (go_at_call 66; refine (rwide_any R1.out (by rw [bs_size]; omega) (by omega)).mono ?_; rintro e w2 ⟨rfl, r2, g2⟩; simp only [hbd, hd] at r2; have R2 := Lib.hid r2; have row2 := Lib.hid (row_grown row1.out g2 (by simp)); have c0 := cell_in row2.out 0 _ rfl; have c1 := cell_in row2.out 1 _ rfl; have c2 := cell_in row2.out 2 _ rfl; have c3 := cell_in row2.out 3 _ rfl; have f0 := free_in row2.out 0; have f1 := free_in row2.out 1; have f2 := free_in row2.out 2; have f3 := free_in row2.out 3; have B2 := Lib.hid (first_below b1 g2); clear r2)
    | (go_at_call 62; refine (reverse_any _ (by simpa [hbd, hd] using hbl) _).mono ?_; rintro e w' ⟨rfl, rfl⟩)
    | (go_at_call 67; refine (err_any R2.out).mono ?_; rintro e w' ⟨rfl, rfl⟩)
    | (go_at_call 68; refine (at_any R2.out).mono ?_; rintro e w' ⟨rfl, rfl⟩))
  exact ret_part rfl rfl rfl rfl rfl (row_sets row2.out rfl _ _ _ _) ⟨by rw [hp.out]; rfl, below_sets B2.out⟩
set_option maxRecDepth 100000 in
set_option maxHeartbeats 2000000 in
theorem first_count {w : World} (S : ByteArray) (hS : 0 < S.size) (hS2 : S.size ≤ 1000) (hl : 9 ≤ S.size) (k1 : (S[0].toNat : Int) = 117) (hp : Hid (pfirst S.data.toList = some (kCount (be8 (S.data.toList.drop 1)), (S.data.toList.drop 1).drop 8))) :
    Calls Tryd.prog 60 #[.string S] w fun e w' => e = .returned (fval (pfirst S.data.toList)) ∧ Below w.heap.size w w' := by
  have x1 := ext_from S 1
  have hlz : (S.data.toList.drop 1).length = S.size - 1 := by rw [List.length_drop, size_len]
  have y9 := ext_from S 9
  have hd9 : S.data.toList.drop 9 = (S.data.toList.drop 1).drop 8 := by rw [List.drop_drop]
  rw [hd9] at y9
  have hr : rev8 (big ((S.data.toList.drop 1).take 8)) = be8 (S.data.toList.drop 1) := rfl
  have hbe := be8_lt (S.data.toList.drop 1)
  have hbl : big ((S.data.toList.drop 1).take 8) < 18446744073709551616 := by
    have h := big_lt ((S.data.toList.drop 1).take 8)
    rw [List.length_take, Nat.min_eq_left (by omega)] at h
    exact h
  generalize S.data.toList.drop 1 = z at x1 hlz hr hbe hbl hp y9
  clear hd9
  have hd : dTake z 0 0 8 = (z.take 8, 8, 0) := by rw [dTake_ok (by omega) (by omega), List.drop_zero]; rfl
  generalize be8 z = N at hr hbe hp
  generalize z.drop 8 = y at y9 hp
  generalize z.take 8 = t at hd hr hbl
  have hbd := bs_toList
  go_enter Tryd.func60, Tryd.ntmps60
  go_wp2_with (first
    | (go_at_call 65; refine (over_any _ _).mono ?_; rintro e w1 ⟨rfl, r1, b1⟩; simp only [World.alloc, Array.size_push] at r1; have R1 := Lib.hid r1; have row1 := Lib.hid ((b1.block w.heap.size (by simp)).trans (heap_alloc_new w (.cells #[.int .u8 0, .int .i64 0, .int .u64 0, .string ⟨#[]⟩] 70))); clear r1)
    | (go_at_call 66; refine (rwide_any R1.out (by rw [bs_size]; omega) (by omega)).mono ?_; rintro e w2 ⟨rfl, r2, g2⟩; simp only [hbd, hd] at r2; have R2 := Lib.hid r2; have row2 := Lib.hid (row_grown row1.out g2 (by simp)); have B2 := Lib.hid (first_below b1 g2); clear r2)
    | (go_at_call 62; refine (reverse_any _ (by simpa [hbd, hd] using hbl) _).mono ?_; rintro e w' ⟨rfl, rfl⟩)
    | (go_at_call 67; refine (err_any R2.out).mono ?_; rintro e w' ⟨rfl, rfl⟩)
    | (go_at_call 68; refine (at_any R2.out).mono ?_; rintro e w' ⟨rfl, rfl⟩)
    | (go_at_call 70; refine (count_any _ _).mono ?_; rintro e w3 ⟨rfl, b3⟩; have row3 := Lib.hid ((b3.block w.heap.size (Array.getElem?_eq_some_iff.1 row2.out).1).trans row2.out); have c0 := cell_in row3.out 0 _ rfl; have c1 := cell_in row3.out 1 _ rfl; have c2 := cell_in row3.out 2 _ rfl; have c3 := cell_in row3.out 3 _ rfl; have f0 := free_in row3.out 0; have f1 := free_in row3.out 1; have f2 := free_in row3.out 2; have f3 := free_in row3.out 3))
  exact ret_part rfl rfl rfl rfl rfl (row_sets row3.out rfl _ _ _ _) ⟨by rw [hp.out]; rfl, below_sets (B2.out.trans (b3.mono B2.out.size))⟩
set_option maxRecDepth 100000 in
set_option maxHeartbeats 2000000 in
theorem first_up {w : World} (S : ByteArray) (hS : 0 < S.size) (hS2 : S.size ≤ 1000) (hl : 9 ≤ S.size) (k1 : (S[0].toNat : Int) = 105) (hp : Hid (pfirst S.data.toList = some (kUp ((be8 (S.data.toList.drop 1) : Int) - 9223372036854775808), (S.data.toList.drop 1).drop 8))) :
    Calls Tryd.prog 60 #[.string S] w fun e w' => e = .returned (fval (pfirst S.data.toList)) ∧ Below w.heap.size w w' := by
  have x1 := ext_from S 1
  have hlz : (S.data.toList.drop 1).length = S.size - 1 := by rw [List.length_drop, size_len]
  have y9 := ext_from S 9
  have hd9 : S.data.toList.drop 9 = (S.data.toList.drop 1).drop 8 := by rw [List.drop_drop]
  rw [hd9] at y9
  have hr : rev8 (big ((S.data.toList.drop 1).take 8)) = be8 (S.data.toList.drop 1) := rfl
  have hbe := be8_lt (S.data.toList.drop 1)
  have hbl : big ((S.data.toList.drop 1).take 8) < 18446744073709551616 := by
    have h := big_lt ((S.data.toList.drop 1).take 8)
    rw [List.length_take, Nat.min_eq_left (by omega)] at h
    exact h
  generalize S.data.toList.drop 1 = z at x1 hlz hr hbe hbl hp y9
  clear hd9
  have hd : dTake z 0 0 8 = (z.take 8, 8, 0) := by rw [dTake_ok (by omega) (by omega), List.drop_zero]; rfl
  generalize be8 z = N at hr hbe hp
  generalize z.drop 8 = y at y9 hp
  generalize z.take 8 = t at hd hr hbl
  have hbd := bs_toList
  go_enter Tryd.func60, Tryd.ntmps60
  go_wp2_with (first
    | (go_at_call 65; refine (over_any _ _).mono ?_; rintro e w1 ⟨rfl, r1, b1⟩; simp only [World.alloc, Array.size_push] at r1; have R1 := Lib.hid r1; have row1 := Lib.hid ((b1.block w.heap.size (by simp)).trans (heap_alloc_new w (.cells #[.int .u8 0, .int .i64 0, .int .u64 0, .string ⟨#[]⟩] 70))); clear r1)
    | (go_at_call 66; refine (rwide_any R1.out (by rw [bs_size]; omega) (by omega)).mono ?_; rintro e w2 ⟨rfl, r2, g2⟩; simp only [hbd, hd] at r2; have R2 := Lib.hid r2; have row2 := Lib.hid (row_grown row1.out g2 (by simp)); have B2 := Lib.hid (first_below b1 g2); clear r2)
    | (go_at_call 62; refine (reverse_any _ (by simpa [hbd, hd] using hbl) _).mono ?_; rintro e w' ⟨rfl, rfl⟩)
    | (go_at_call 67; refine (err_any R2.out).mono ?_; rintro e w' ⟨rfl, rfl⟩)
    | (go_at_call 68; refine (at_any R2.out).mono ?_; rintro e w' ⟨rfl, rfl⟩)
    | (go_at_call 69; refine (up_any _ _).mono ?_; rintro e w3 ⟨rfl, b3⟩; have row3 := Lib.hid ((b3.block w.heap.size (Array.getElem?_eq_some_iff.1 row2.out).1).trans row2.out); have c0 := cell_in row3.out 0 _ rfl; have c1 := cell_in row3.out 1 _ rfl; have c2 := cell_in row3.out 2 _ rfl; have c3 := cell_in row3.out 3 _ rfl; have f0 := free_in row3.out 0; have f1 := free_in row3.out 1; have f2 := free_in row3.out 2; have f3 := free_in row3.out 3))
  exact ret_part rfl rfl rfl rfl rfl (row_sets row3.out rfl _ _ _ _) ⟨by rw [hp.out, wrap_up hbe]; rfl, below_sets (B2.out.trans (b3.mono B2.out.size))⟩
set_option maxRecDepth 100000 in
set_option maxHeartbeats 2000000 in
theorem first_down {w : World} (S : ByteArray) (hS : 0 < S.size) (hS2 : S.size ≤ 1000) (hl : 9 ≤ S.size) (k1 : (S[0].toNat : Int) = 100) (hp : Hid (pfirst S.data.toList = some (kDown (9223372036854775807 - (be8 (S.data.toList.drop 1) : Int)), (S.data.toList.drop 1).drop 8))) :
    Calls Tryd.prog 60 #[.string S] w fun e w' => e = .returned (fval (pfirst S.data.toList)) ∧ Below w.heap.size w w' := by
  have x1 := ext_from S 1
  have hlz : (S.data.toList.drop 1).length = S.size - 1 := by rw [List.length_drop, size_len]
  have y9 := ext_from S 9
  have hd9 : S.data.toList.drop 9 = (S.data.toList.drop 1).drop 8 := by rw [List.drop_drop]
  rw [hd9] at y9
  have hr : rev8 (big ((S.data.toList.drop 1).take 8)) = be8 (S.data.toList.drop 1) := rfl
  have hbe := be8_lt (S.data.toList.drop 1)
  have hbl : big ((S.data.toList.drop 1).take 8) < 18446744073709551616 := by
    have h := big_lt ((S.data.toList.drop 1).take 8)
    rw [List.length_take, Nat.min_eq_left (by omega)] at h
    exact h
  generalize S.data.toList.drop 1 = z at x1 hlz hr hbe hbl hp y9
  clear hd9
  have hd : dTake z 0 0 8 = (z.take 8, 8, 0) := by rw [dTake_ok (by omega) (by omega), List.drop_zero]; rfl
  generalize be8 z = N at hr hbe hp
  generalize z.drop 8 = y at y9 hp
  generalize z.take 8 = t at hd hr hbl
  have hbd := bs_toList
  go_enter Tryd.func60, Tryd.ntmps60
  go_wp2_with (first
    | (go_at_call 65; refine (over_any _ _).mono ?_; rintro e w1 ⟨rfl, r1, b1⟩; simp only [World.alloc, Array.size_push] at r1; have R1 := Lib.hid r1; have row1 := Lib.hid ((b1.block w.heap.size (by simp)).trans (heap_alloc_new w (.cells #[.int .u8 0, .int .i64 0, .int .u64 0, .string ⟨#[]⟩] 70))); clear r1)
    | (go_at_call 66; refine (rwide_any R1.out (by rw [bs_size]; omega) (by omega)).mono ?_; rintro e w2 ⟨rfl, r2, g2⟩; simp only [hbd, hd] at r2; have R2 := Lib.hid r2; have row2 := Lib.hid (row_grown row1.out g2 (by simp)); have B2 := Lib.hid (first_below b1 g2); clear r2)
    | (go_at_call 62; refine (reverse_any _ (by simpa [hbd, hd] using hbl) _).mono ?_; rintro e w' ⟨rfl, rfl⟩)
    | (go_at_call 67; refine (err_any R2.out).mono ?_; rintro e w' ⟨rfl, rfl⟩)
    | (go_at_call 68; refine (at_any R2.out).mono ?_; rintro e w' ⟨rfl, rfl⟩)
    | (go_at_call 37; refine (down_any _ _).mono ?_; rintro e w3 ⟨rfl, b3⟩; have row3 := Lib.hid ((b3.block w.heap.size (Array.getElem?_eq_some_iff.1 row2.out).1).trans row2.out); have c0 := cell_in row3.out 0 _ rfl; have c1 := cell_in row3.out 1 _ rfl; have c2 := cell_in row3.out 2 _ rfl; have c3 := cell_in row3.out 3 _ rfl; have f0 := free_in row3.out 0; have f1 := free_in row3.out 1; have f2 := free_in row3.out 2; have f3 := free_in row3.out 3))
  exact ret_part rfl rfl rfl rfl rfl (row_sets row3.out rfl _ _ _ _) ⟨by rw [hp.out, wrap_down hbe]; rfl, below_sets (B2.out.trans (b3.mono B2.out.size))⟩
set_option maxRecDepth 100000 in
set_option maxHeartbeats 2000000 in
theorem first_text {w : World} (S : ByteArray) (hS : 0 < S.size) (hS2 : S.size ≤ 1000) (m : Int) (hm : w.cell? ⟨0, 0, none⟩ = some (.int .i64 m)) (k1 : (S[0].toNat : Int) = 116) (hp : Hid (pfirst S.data.toList = (unesc (S.data.toList.drop 1)).map fun x => (kText (bs x.1), x.2))) :
    Calls Tryd.prog 60 #[.string S] w fun e w' => e = .returned (fval (pfirst S.data.toList)) ∧ Below w.heap.size w w' := by
  have HM := Lib.hid (cell_alloc0 hm (.cells #[.int .u8 0, .int .i64 0, .int .u64 0, .string ⟨#[]⟩] 70))
  clear hm
  have x1 := ext_from S 1
  have hlz : (S.data.toList.drop 1).length = S.size - 1 := by rw [List.length_drop, size_len]
  generalize S.data.toList.drop 1 = z at x1 hlz hp
  have HT := Lib.hid (firstText_any z (by omega) m HM.out)
  generalize (unesc z).map (fun x => (kText (bs x.1), x.2)) = o at hp HT
  match o with
  | none =>
    go_enter Tryd.func60, Tryd.ntmps60
    go_wp2_with (go_at_call 64; refine HT.out.mono ?_; rintro e w1 ⟨rfl, b1⟩; simp only [fval]; have row1 := Lib.hid ((b1.block w.heap.size (by simp)).trans (heap_alloc_new w (.cells #[.int .u8 0, .int .i64 0, .int .u64 0, .string ⟨#[]⟩] 70))); have c0 := cell_in row1.out 0 _ rfl; have c1 := cell_in row1.out 1 _ rfl; have c2 := cell_in row1.out 2 _ rfl; have c3 := cell_in row1.out 3 _ rfl; have f0 := free_in row1.out 0; have f1 := free_in row1.out 1; have f2 := free_in row1.out 2; have f3 := free_in row1.out 3)
    exact ret_part rfl rfl rfl rfl rfl (row_sets row1.out rfl _ _ _ _) ⟨by rw [hp.out]; rfl, below_sets (first_below b1 (grown_refl _ _))⟩
  | some ((⟨q1, q2, q3, q4⟩, r)) =>
    go_enter Tryd.func60, Tryd.ntmps60
    go_wp2_with (go_at_call 64; refine HT.out.mono ?_; rintro e w1 ⟨rfl, b1⟩; simp only [fval]; have row1 := Lib.hid ((b1.block w.heap.size (by simp)).trans (heap_alloc_new w (.cells #[.int .u8 0, .int .i64 0, .int .u64 0, .string ⟨#[]⟩] 70))); have c0 := cell_in row1.out 0 _ rfl; have c1 := cell_in row1.out 1 _ rfl; have c2 := cell_in row1.out 2 _ rfl; have c3 := cell_in row1.out 3 _ rfl; have f0 := free_in row1.out 0; have f1 := free_in row1.out 1; have f2 := free_in row1.out 2; have f3 := free_in row1.out 3)
    exact ret_part rfl rfl rfl rfl rfl (row_sets row1.out rfl _ _ _ _) ⟨by rw [hp.out]; rfl, below_sets (first_below b1 (grown_refl _ _))⟩
theorem byte_is {c : UInt8} {n : Nat} (h : c = UInt8.ofNat n) (hn : n < 256) : (c.toNat : Int) = n := by
  subst h; rw [UInt8.toNat_ofNat', Nat.mod_eq_of_lt hn]
theorem byte_not {c d : UInt8} (h : ¬ c = d) : ((c.toNat : Int) == (d.toNat : Int)) = false := by
  rw [beq_eq_false_iff_ne]; intro e; exact h (UInt8.toNat_inj.1 (Int.ofNat_inj.1 e))
/-- first, at every key of at most 1000 bytes that isn't empty -/
theorem first_any {w : World} (S : ByteArray) (hS : 0 < S.size) (hS2 : S.size ≤ 1000) (m : Int) (hm : w.cell? ⟨0, 0, none⟩ = some (.int .i64 m)) :
    Calls Tryd.prog 60 #[.string S] w fun e w' => e = .returned (fval (pfirst S.data.toList)) ∧ Below w.heap.size w w' := by
  have hb := bytes_of_first S hS
  have hlz : (S.data.toList.drop 1).length = S.size - 1 := by rw [List.length_drop, size_len]
  by_cases h1 : S[0] = 116
  · refine first_text S hS hS2 m hm (byte_is h1 (by decide)) ?_
    show _ = _
    rw [hb, h1, pfirst_t]; rfl
  by_cases hl : S.size < 9
  · refine first_short S hS hS2 hl (byte_not h1) ?_
    show _ = _
    rw [hb, pfirst_short h1 (by omega)]
  by_cases h2 : S[0] = 105
  · refine first_up S hS hS2 (by omega) (byte_is h2 (by decide)) ?_
    show _ = _
    rw [hb, h2, pfirst_i (by omega)]; rfl
  by_cases h3 : S[0] = 100
  · refine first_down S hS hS2 (by omega) (byte_is h3 (by decide)) ?_
    show _ = _
    rw [hb, h3, pfirst_d (by omega)]; rfl
  by_cases h4 : S[0] = 117
  · refine first_count S hS hS2 (by omega) (byte_is h4 (by decide)) ?_
    show _ = _
    rw [hb, h4, pfirst_u (by omega)]; rfl
  refine first_none S hS hS2 (by omega) (byte_not h1) (byte_not h2) (byte_not h3) (byte_not h4) ?_
  show _ = _
  rw [hb, pfirst_n h1 h2 h3 h4]
end Go.Proofs.YtadejeoiffaimaaDoor
namespace Go.Proofs.YtadejeoiffaimaaDoor
open Go.RowKit
open Vi

theorem unesc_esc : ∀ (s r : List UInt8), unesc (esc s ++ (0 :: 0 :: r)) = some (s, r)
  | [], r => unesc_end r
  | c :: s, r => by
    by_cases hc : c = 0
    · subst hc; rw [esc_cons0, List.cons_append, List.cons_append, unesc_on, unesc_esc s r]; rfl
    · rw [esc_cons hc, List.cons_append, unesc_other hc, unesc_esc s r]; rfl
theorem onward_len {l : List UInt8} {s r : List UInt8} (hu : ∀ k : List UInt8, k.length < l.length → ∀ s r, unesc k = some (s, r) → r.length < k.length) (h : onward l = some (s, r)) : r.length < l.length := by
  match l with
  | [] => cases h
  | d :: q =>
    simp only [onward] at h
    split at h
    · cases h; simp
    · split at h
      · cases hq : unesc q with
        | none => rw [hq] at h; cases h
        | some x =>
          obtain ⟨x1, x2⟩ := x
          rw [hq] at h; cases h
          have := hu q (by simp) _ _ hq
          simp; omega
      · cases h
theorem unesc_len (n : Nat) : ∀ l : List UInt8, l.length ≤ n → ∀ s r, unesc l = some (s, r) → r.length < l.length := by
  induction n with
  | zero =>
    intro l hl s r h
    match l with
    | [] => cases h
    | _ :: _ => simp at hl
  | succ n ih =>
    intro l hl s r h
    match l with
    | [] => cases h
    | c :: l =>
      have hl' : l.length ≤ n := by simpa using hl
      by_cases hc : c = 0
      · subst hc
        have e : unesc (0 :: l) = onward l := by rw [unesc_cut, cut0_zero, ahead_nil]
        rw [e] at h
        have := onward_len (fun k hk => ih k (by omega)) h
        simp; omega
      · rw [unesc_other hc] at h
        cases hq : unesc l with
        | none => rw [hq] at h; cases h
        | some x =>
          obtain ⟨x1, x2⟩ := x
          rw [hq] at h; cases h
          have := ih l hl' _ _ hq
          simp; omega
theorem pfirst_len {l : List UInt8} {p : KPart} {r : List UInt8} (h : pfirst l = some (p, r)) : r.length < l.length := by
  match l with
  | [] => cases h
  | c :: l =>
    rw [pfirst] at h
    split at h
    · cases hq : unesc l with
      | none => rw [hq] at h; cases h
      | some x =>
        obtain ⟨x1, x2⟩ := x
        rw [hq] at h; cases h
        have := unesc_len _ l (Nat.le_refl _) _ _ hq
        simp; omega
    · split at h
      · cases h
      · split at h
        · cases h; simp; omega
        · split at h
          · cases h; simp; omega
          · split at h
            · cases h; simp; omega
            · cases h
/-- the parts of a key's bytes; n rounds are enough for n bytes -/
def partsIn : Nat → List UInt8 → Option (List KPart)
  | _, [] => some []
  | 0, _ :: _ => none
  | n + 1, c :: l => match pfirst (c :: l) with
    | none => none
    | some x => (partsIn n x.2).map (x.1 :: ·)
theorem partsIn_more (n : Nat) : ∀ (m : Nat) (l : List UInt8), l.length ≤ n → n ≤ m → partsIn m l = partsIn n l := by
  induction n with
  | zero =>
    intro m l hl _
    match l with
    | [] => cases m <;> rfl
    | _ :: _ => simp at hl
  | succ n ih =>
    intro m l hl hm
    match l, m with
    | [], m => cases m <;> rfl
    | c :: l, m + 1 =>
      simp only [partsIn]
      cases hq : pfirst (c :: l) with
      | none => rfl
      | some x =>
        obtain ⟨x1, x2⟩ := x
        have := pfirst_len hq
        simp only [List.length_cons] at this hl
        simp only []
        rw [ih m x2 (by omega) (by omega)]
def pparts (l : List UInt8) : Option (List KPart) := partsIn l.length l
theorem pparts_nil : pparts [] = some [] := rfl
theorem pparts_none {l : List UInt8} (h0 : 0 < l.length) (h : pfirst l = none) : pparts l = none := by
  match l, h0 with
  | c :: l, _ => unfold pparts; simp only [List.length_cons, partsIn]; rw [h]
theorem pparts_some {l : List UInt8} {p : KPart} {r : List UInt8} (h : pfirst l = some (p, r)) : pparts l = (pparts r).map (p :: ·) := by
  match l with
  | [] => cases h
  | c :: l =>
    have := pfirst_len h
    simp only [List.length_cons] at this
    unfold pparts; simp only [List.length_cons, partsIn]; rw [h]
    simp only []
    rw [partsIn_more r.length l.length r (Nat.le_refl _) (by omega)]
theorem be8_big8 {n : Nat} (h : n < 18446744073709551616) (r : List UInt8) : be8 (big8 n ++ r) = n := by
  unfold be8
  have e : big (big8 n) = rev8 n := by unfold big8 rev8; rfl
  rw [List.take_left' (big8_len n), e]
  exact rev8_rev8 h
/-- what of a part its sort uses -/
def pplain (p : KPart) : KPart := if p.sort = 105 then kUp p.n else if p.sort = 100 then kDown p.n else if p.sort = 117 then kCount p.u else if p.sort = 116 then kText p.s else ⟨p.sort, 0, 0, ⟨#[]⟩⟩
theorem bs_back (s : ByteArray) : bs s.data.toList = s := rfl
theorem pfirst_bytes {p : KPart} (hp : p.ok) (h : (pbytes p).2 = 0) (r : List UInt8) : pfirst ((pbytes p).1 ++ r) = some (pplain p, r) := by
  obtain ⟨_, h1, h2, h3⟩ := hp
  have hll := lift_lt h1 h2
  unfold pplain
  by_cases e1 : p.sort = 105
  · have e : (pbytes p).1 = 105 :: big8 (lift p.n) := by unfold pbytes; rw [if_pos e1]
    rw [e, if_pos e1, List.cons_append, pfirst_i (by rw [List.length_append, big8_len]; omega), be8_big8 hll, List.drop_left' (big8_len _)]
    have : (lift p.n : Int) - 9223372036854775808 = p.n := by unfold lift; omega
    rw [this]
  by_cases e2 : p.sort = 100
  · have e : (pbytes p).1 = 100 :: big8 (18446744073709551615 - lift p.n) := by unfold pbytes; rw [if_neg e1, if_pos e2]
    rw [e, if_neg e1, if_pos e2, List.cons_append, pfirst_d (by rw [List.length_append, big8_len]; omega), be8_big8 (by omega), List.drop_left' (big8_len _)]
    have : 9223372036854775807 - ((18446744073709551615 - lift p.n : Nat) : Int) = p.n := by unfold lift at hll ⊢; omega
    rw [this]
  by_cases e3 : p.sort = 117
  · have e : (pbytes p).1 = 117 :: big8 p.u := by unfold pbytes; rw [if_neg e1, if_neg e2, if_pos e3]
    rw [e, if_neg e1, if_neg e2, if_pos e3, List.cons_append, pfirst_u (by rw [List.length_append, big8_len]; omega), be8_big8 h3, List.drop_left' (big8_len _)]
  by_cases e4 : p.sort = 116
  · by_cases e5 : 200 < p.s.size
    · unfold pbytes at h; rw [if_neg e1, if_neg e2, if_neg e3, if_pos e4, if_pos e5] at h; cases h
    · have e : (pbytes p).1 = 116 :: (esc p.s.data.toList ++ [0, 0]) := by unfold pbytes; rw [if_neg e1, if_neg e2, if_neg e3, if_pos e4, if_neg e5]
      rw [e, if_neg e1, if_neg e2, if_neg e3, if_pos e4, List.cons_append, pfirst_t, List.append_assoc]
      have : unesc (esc p.s.data.toList ++ ([0, 0] ++ r)) = some (p.s.data.toList, r) := unesc_esc _ r
      rw [this]; rfl
  · unfold pbytes at h; rw [if_neg e1, if_neg e2, if_neg e3, if_neg e4] at h; cases h
/-- a key is its parts' bytes, one behind the other -/
theorem mkGo_bytes : ∀ (l : List KPart) (k K : List UInt8), mkGo k l = (K, 0) → K = k ++ l.flatMap (fun p => (pbytes p).1) ∧ ∀ p ∈ l, (pbytes p).2 = 0
  | [], k, K, h => by cases h; simp
  | p :: l, k, K, h => by
    rw [mkGo] at h
    split at h
    · rename_i h0
      split at h
      · cases h
      · obtain ⟨e, ha⟩ := mkGo_bytes l _ K h
        exact ⟨by rw [e]; simp, fun q hq => by
          rcases List.mem_cons.1 hq with rfl | hq
          · exact h0
          · exact ha q hq⟩
    · rename_i h0
      injection h with _ h2
      exact absurd h2 h0
theorem pparts_bytes : ∀ (l : List KPart), (∀ p ∈ l, p.ok) → (∀ p ∈ l, (pbytes p).2 = 0) → pparts (l.flatMap (fun p => (pbytes p).1)) = some (l.map pplain)
  | [], _, _ => rfl
  | p :: l, ho, h => by
    rw [List.flatMap_cons, pparts_some (pfirst_bytes (ho p (by simp)) (h p (by simp)) _), pparts_bytes l (fun q hq => ho q (by simp [hq])) (fun q hq => h q (by simp [hq]))]
    rfl
/-- what is made is parsed as it was -/
theorem pparts_made {l : List KPart} {K : List UInt8} (ho : ∀ p ∈ l, p.ok) (h : mkGo [] l = (K, 0)) : pparts K = some (l.map pplain) := by
  obtain ⟨rfl, ha⟩ := mkGo_bytes l [] K h
  rw [List.nil_append]
  exact pparts_bytes l ho ha
end Go.Proofs.YtadejeoiffaimaaDoor
namespace Go.Proofs.YtadejeoiffaimaaDoor
open Go.RowKit
open Vi

theorem infoPart : (Tryd.prog.info? 70).map (fun i => (i.zero, i.size, i.bytes)) = some (some (.agg #[.int .u8 0, .int .i64 0, .int .u64 0, .string ⟨#[]⟩]), 4, 40) := by kernel_rfl
def PtJ (K : List UInt8) (w : World) (k v : Value) (wr : World) : Prop :=
  ∃ (a : List KPart) (l : List UInt8), (pparts l).map (a ++ ·) = pparts K ∧ a.length + l.length ≤ K.length ∧ k = .string (bs l) ∧ wr.ownsRow w.heap.size 70 4 v a.length (a.flatMap KPart.cells) ∧ Below w.heap.size w wr
def PartsPost (K : List UInt8) (w : World) (e : Ending) (w' : World) : Prop :=
  ((∃ v a, e = .returned (.tuple #[v, .int .i64 0]) ∧ K.length ≤ 200 ∧ pparts K = some a ∧ w'.ownsRow w.heap.size 70 4 v a.length (a.flatMap KPart.cells)) ∨
    (e = .returned (.tuple #[.slice none 0 0, .int .i64 19]) ∧ (200 < K.length ∨ pparts K = none))) ∧ Below w.heap.size w w'
theorem owns_below {w wr w1 : World} {v : Value} {n : Nat} {xs : List Value} (h : wr.ownsRow w.heap.size 70 4 v n xs) (b : Below wr.heap.size wr w1) : w1.ownsRow w.heap.size 70 4 v n xs :=
  h.kept (row := none) ⟨b.os, b.tape, b.output, b.size, fun k hk _ => b.block k hk⟩ (by cases v.ownBlock <;> simp)
theorem below_grown {w wr w4 : World} {v : Value} {n : Nat} {xs : List Value} (hb : Below w.heap.size w wr) (h : wr.ownsRow w.heap.size 70 4 v n xs) (hg : wr.grownBy w4 v.ownBlock) : Below w.heap.size w w4 :=
  hb.trans ⟨hg.os, hg.tape, hg.output, hg.size, fun k hk => hg.block k (Nat.lt_of_lt_of_le hk hb.size) fun e => by have := (h.lt k e.symm).1; omega⟩
theorem news_second (w1 : World) (q : KPart) : ∀ j u, q.cells[j]? = some u → ((w1.alloc (.cells #[.int .u8 q.sort, .int .i64 q.n, .int .u64 q.u, .string q.s] 70)).alloc (.cells #[.int .u8 q.sort, .int .i64 q.n, .int .u64 q.u, .string q.s] 70)).cell? ((⟨w1.heap.size + 1, 0, none⟩ : Addr).add j) = some u := by
  have hn := heap_alloc_new (w1.alloc (.cells #[.int .u8 q.sort, .int .i64 q.n, .int .u64 q.u, .string q.s] 70)) (.cells #[.int .u8 q.sort, .int .i64 q.n, .int .u64 q.u, .string q.s] 70)
  have hA : (w1.alloc (.cells #[.int .u8 q.sort, .int .i64 q.n, .int .u64 q.u, .string q.s] 70)).heap.size = w1.heap.size + 1 := by simp
  rw [hA] at hn
  exact World.news_of_block hn
set_option maxRecDepth 100000 in
set_option maxHeartbeats 2000000 in
theorem parts_any {w : World} (K : List UInt8) (hK : K.length ≤ 1000) (m : Int) (hm : w.cell? ⟨0, 0, none⟩ = some (.int .i64 m)) :
    Calls Tryd.prog 56 #[.string (bs K)] w (PartsPost K w) := by
  have HM := Lib.hid hm
  clear hm
  have hbz := bs_size
  by_cases h2 : 200 < K.length
  · go_enter Tryd.func56, Tryd.ntmps56
    go_wp2
    go_ret2
    exact ⟨.inr ⟨rfl, .inl h2⟩, Below.refl _ _⟩
  obtain ⟨i0, hi, hz0, hz1, hz2⟩ := info_parts infoPart
  have HI := Lib.hid (And.intro hi (And.intro hz0 (And.intro hz1 hz2)))
  clear hi hz0 hz1 hz2
  go_enter Tryd.func56, Tryd.ntmps56
  go_wp2
  go_loopw [0, 4] (PtJ K w) (fun k _ _ => strLen k)
  case atStart => exact ⟨[], K, by cases pparts K <;> rfl, by simp, rfl, World.ownsRow_nil _ _ _ _, Below.refl _ _⟩
  case round =>
    obtain ⟨a, l, hu, hl, rfl, hown, hb⟩ := hrel
    have HO := Lib.hid hown
    have HB := Lib.hid hb
    clear hown hb
    match l with
    | [] =>
      have HU : Hid (pparts K = some a) := by show _ = _; rw [← hu, pparts_nil]; simp
      clear hu
      go_wp2
      go_ret2
      exact ⟨.inl ⟨_, a, rfl, by omega, HU.out, HO.out⟩, HB.out⟩
    | c0 :: l0 =>
      have hS : 0 < (c0 :: l0).length := by simp
      generalize c0 :: l0 = l at hu hl hS
      have HF := first_any (w := wr) (bs l) (by rw [bs_size]; exact hS) (by rw [bs_size]; omega) m (cell0_below HM.out HB.out)
      rw [bs_toList] at HF
      cases hq : pfirst l with
      | none =>
        have HU : Hid (pparts K = none) := by show _ = _; rw [← hu, pparts_none hS hq]; rfl
        rw [hq] at HF
        have HF := Lib.hid HF
        clear hu hq
        go_wp2_with (go_at_call 60; refine HF.out.mono ?_; rintro e w1 ⟨rfl, b1⟩; simp only [fval])
        go_ret2
        exact ⟨.inr ⟨rfl, .inr HU.out⟩, (HB.out.trans (b1.mono HB.out.size)).alloc (by have := HB.out.size; have := b1.size; omega) _⟩
      | some x =>
        obtain ⟨⟨q1, q2, q3, q4⟩, r⟩ := x
        have hlen := pfirst_len hq
        have hsz := HB.out.size
        have hl' := hl
        have HU : Hid ((pparts r).map ((a ++ [⟨q1, q2, q3, q4⟩]) ++ ·) = pparts K) := by
          show _ = _; rw [← hu, pparts_some hq]; cases pparts r <;> simp
        rw [hq] at HF
        have HF := Lib.hid HF
        clear hu hq
        clear hl'
        go_wp2_with (first
          | (go_at_call 60; refine HF.out.mono ?_; rintro e w1 ⟨rfl, b1⟩; simp only [fval])
          | (at_builtin
             have hs1 := b1.size
             refine wpList_append_lies _ rfl _ _ 95 rfl w.heap.size 70 i0 _ 4 40 Tryd.underlying95 HI.out.1 HI.out.2.1 HI.out.2.2.1 HI.out.2.2.2 rfl (by decide) u4 a.length (a.flatMap KPart.cells) rfl (((owns_below HO.out b1).alloc _).alloc _) ⟨w1.heap.size + 1, 0, none⟩ 1 1 (KPart.cells ⟨q1, q2, q3, q4⟩) rfl rfl (news_second w1 ⟨q1, q2, q3, q4⟩) ?c2 (by omega) (by unfold maxLen; omega) (by omega) (by simp; omega) (w1.heap.size + 2) (by simp) ?_
             case c2 => intro x hx; simp [KPart.cells] at hx; rcases hx with rfl | rfl | rfl | rfl <;> rfl
             intro g cap w4 hown4 hgrow4 hwhere hlt4
             have HE := Lib.hid (And.intro hown4 hgrow4)
             clear hown4 hgrow4 hwhere hlt4))
        go_roundw
        case rel => exact ⟨a ++ [⟨q1, q2, q3, q4⟩], r, HU.out, by simp; omega, rfl, by rw [List.flatMap_append, List.length_append]; simpa using HE.out.1, below_grown (((HB.out.trans (b1.mono HB.out.size)).alloc (by have := HB.out.size; omega) _).alloc (by have := HB.out.size; simp; omega) _) (((owns_below HO.out b1).alloc _).alloc _) HE.out.2⟩
        case measure => simp [strLen, bs_size]; omega
end Go.Proofs.YtadejeoiffaimaaDoor
namespace Go.Proofs.YtadejeoiffaimaaDoor
open Go.RowKit
open Vi

def PlJ (w : World) (l : List KPart) (v i : Value) (wr : World) : Prop :=
  ∃ j : Nat, j ≤ l.length ∧ i = .int .i64 j ∧ wr.ownsRow w.heap.size 70 4 v j (((l.take j).map pplain).flatMap KPart.cells) ∧ Below w.heap.size w wr
theorem news_third (wr : World) (o1 o2 : Obj) (q : KPart) : ∀ j u, q.cells[j]? = some u → (((wr.alloc o1).alloc o2).alloc (.cells #[.int .u8 q.sort, .int .i64 q.n, .int .u64 q.u, .string q.s] 70)).cell? ((⟨wr.heap.size + 1 + 1, 0, none⟩ : Addr).add j) = some u := by
  have hn := heap_alloc_new ((wr.alloc o1).alloc o2) (.cells #[.int .u8 q.sort, .int .i64 q.n, .int .u64 q.u, .string q.s] 70)
  have hA : ((wr.alloc o1).alloc o2).heap.size = wr.heap.size + 1 + 1 := by simp
  rw [hA] at hn
  exact World.news_of_block hn
theorem cells_one (q : KPart) : ∀ u ∈ q.cells, u.oneCell' = true := by
  intro x hx; simp [KPart.cells] at hx; rcases hx with rfl | rfl | rfl | rfl <;> rfl
end Go.Proofs.YtadejeoiffaimaaDoor
namespace Go.Proofs.YtadejeoiffaimaaDoor
open Go.RowKit
open Vi

theorem flat_at : ∀ (l : List KPart) (i : Nat) (hi : i < l.length) (r : Nat), r < 4 → (l.flatMap KPart.cells)[i * 4 + r]? = l[i].cells[r]?
  | p :: l, 0, _, r, hr => by
    rw [List.flatMap_cons, Nat.zero_mul, Nat.zero_add, List.getElem?_append_left (by simpa [KPart.cells] using hr)]; rfl
  | p :: l, i + 1, hi, r, hr => by
    have e : (i + 1) * 4 + r - p.cells.length = i * 4 + r := by simp [KPart.cells]; omega
    rw [List.flatMap_cons, List.getElem?_append_right (by simp [KPart.cells]; omega), e, flat_at l i (by simpa using hi) r hr]; rfl
theorem add_flat (g k : Nat) : (⟨g, 0, none⟩ : Addr).add k = ⟨g, k, none⟩ := by unfold Addr.add; split <;> simp_all
theorem prow_of_owns {w : World} {B : Nat} {v : Value} {l : List KPart} (h : w.ownsRow B 70 4 v l.length (l.flatMap KPart.cells)) :
    ∃ A c, v = .slice A l.length c ∧ PRow w A l := by
  have hc := fun g hg => h.cells (g := g) hg
  rcases h.2 with ⟨rfl, h0⟩ | ⟨g, cap, cur, rfl, hb, hg, _⟩
  · exact ⟨none, 0, by rw [h0], fun h1 => by omega⟩
  · refine ⟨some ⟨g, 0, none⟩, cap, rfl, fun _ => ⟨_, rfl, (Array.getElem?_eq_some_iff.1 hg).1, fun i hi => ?_⟩⟩
    have hk : ∀ r u, r < 4 → l[i].cells[r]? = some u → w.cell? ⟨g, i * 4 + r, none⟩ = some u := fun r u hr hu => by
      have := hc g rfl (i * 4 + r) u (by rw [flat_at l i hi r hr]; exact hu)
      rwa [add_flat] at this
    rw [add_flat]
    exact ⟨hk 0 _ (by decide) rfl, hk 1 _ (by decide) rfl, hk 2 _ (by decide) rfl, hk 3 _ (by decide) rfl⟩
theorem pplain_pplain (p : KPart) : pplain (pplain p) = pplain p := by
  unfold pplain
  by_cases e1 : p.sort = 105
  · rw [if_pos e1]; rfl
  by_cases e2 : p.sort = 100
  · rw [if_neg e1, if_pos e2]; rfl
  by_cases e3 : p.sort = 117
  · rw [if_neg e1, if_neg e2, if_pos e3]; rfl
  by_cases e4 : p.sort = 116
  · rw [if_neg e1, if_neg e2, if_neg e3, if_pos e4]; rfl
  · rw [if_neg e1, if_neg e2, if_neg e3, if_neg e4]
    simp [e1, e2, e3, e4]
end Go.Proofs.YtadejeoiffaimaaDoor
namespace Go.Proofs.YtadejeoiffaimaaDoor
open Go.RowKit
open Vi

theorem bl_same : ∀ (a r s : List UInt8), Op.bytesLess (a ++ r) (a ++ s) = Op.bytesLess r s
  | [], _, _ => rfl
  | c :: a, r, s => by rw [List.cons_append, List.cons_append, bl_eq]; exact bl_same a r s
theorem bl_apart : ∀ (a b r s : List UInt8), a.length = b.length → ¬ a = b → Op.bytesLess (a ++ r) (b ++ s) = Op.bytesLess a b
  | [], [], _, _, _, h => absurd rfl h
  | x :: a, y :: b, r, s, hl, h => by
    rw [List.cons_append, List.cons_append]
    by_cases h1 : x.toNat < y.toNat
    · rw [bl_lt h1, bl_lt h1]
    · by_cases h2 : x.toNat = y.toNat
      · obtain rfl : x = y := toNat_eq h2
        rw [bl_eq, bl_eq]
        exact bl_apart a b r s (by simpa using hl) (fun e => h (by rw [e]))
      · rw [bl_gt (by omega), bl_gt (by omega)]
/-- texts in keys, whatever is behind them -/
theorem bl_text : ∀ (s t r q : List UInt8), ¬ s = t → Op.bytesLess (esc s ++ (0 :: 0 :: r)) (esc t ++ (0 :: 0 :: q)) = Op.bytesLess s t
  | [], [], _, _, h => absurd rfl h
  | [], d :: t, r, q, _ => by
    by_cases hd : d = 0
    · subst hd; rw [esc_cons0]; simp only [esc, List.nil_append, List.cons_append]; rw [bl_eq, bl_lt (by decide), bl_first]
    · rw [esc_cons hd]; simp only [esc, List.nil_append, List.cons_append]; rw [bl_lt (nz hd), bl_first]
  | c :: s, [], r, q, _ => by
    rw [bl_nil]
    by_cases hc : c = 0
    · subst hc; rw [esc_cons0]; simp only [esc, List.nil_append, List.cons_append]; rw [bl_eq, bl_gt (by decide)]
    · rw [esc_cons hc]; simp only [esc, List.nil_append, List.cons_append]; rw [bl_gt (nz hc)]
  | c :: s, d :: t, r, q, h => by
    by_cases hc : c = 0
    · subst hc
      by_cases hd : d = 0
      · subst hd
        rw [esc_cons0, esc_cons0, List.cons_append, List.cons_append, List.cons_append, List.cons_append, bl_eq, bl_eq, bl_eq]
        exact bl_text s t r q (fun e => h (by rw [e]))
      · rw [esc_cons0, esc_cons hd]; simp only [List.cons_append]; rw [bl_lt (nz hd), bl_lt (nz hd)]
    · by_cases hd : d = 0
      · subst hd
        rw [esc_cons0, esc_cons hc]; simp only [List.cons_append]; rw [bl_gt (nz hc), bl_gt (nz hc)]
      · rw [esc_cons hc, esc_cons hd, List.cons_append, List.cons_append]
        by_cases h1 : c.toNat < d.toNat
        · rw [bl_lt h1, bl_lt h1]
        · by_cases h2 : c.toNat = d.toNat
          · obtain rfl : c = d := toNat_eq h2
            rw [bl_eq, bl_eq]; exact bl_text s t r q (fun e => h (by rw [e]))
          · rw [bl_gt (by omega), bl_gt (by omega)]
/-- numbers in keys, whatever is behind them -/
theorem bl_number {x y : Nat} (hx : x < 18446744073709551616) (hy : y < 18446744073709551616) (h : ¬ x = y) (r q : List UInt8) : Op.bytesLess (big8 x ++ r) (big8 y ++ q) = decide (x < y) := by
  rw [bl_apart _ _ _ _ (by rw [big8_len, big8_len]) (fun e => h (by
    have h1 := be8_big8 hx []
    have h2 := be8_big8 hy []
    rw [e] at h1
    exact h1.symm.trans h2)), bl_big8 hx hy]
end Go.Proofs.YtadejeoiffaimaaDoor
namespace Go.Proofs.YtadejeoiffaimaaDoor
open Go.RowKit
open Vi

/-- what a part's bytes are, by its sort -/
theorem pbytes_cases {p : KPart} (h : (pbytes p).2 = 0) :
    (p.sort = 105 ∧ (pbytes p).1 = 105 :: big8 (lift p.n)) ∨ (p.sort = 100 ∧ (pbytes p).1 = 100 :: big8 (18446744073709551615 - lift p.n)) ∨ (p.sort = 117 ∧ (pbytes p).1 = 117 :: big8 p.u) ∨ (p.sort = 116 ∧ (pbytes p).1 = 116 :: (esc p.s.data.toList ++ [0, 0])) := by
  unfold pbytes at h ⊢
  by_cases e1 : p.sort = 105
  · exact .inl ⟨e1, by rw [if_pos e1]⟩
  by_cases e2 : p.sort = 100
  · exact .inr (.inl ⟨e2, by rw [if_neg e1, if_pos e2]⟩)
  by_cases e3 : p.sort = 117
  · exact .inr (.inr (.inl ⟨e3, by rw [if_neg e1, if_neg e2, if_pos e3]⟩))
  by_cases e4 : p.sort = 116
  · by_cases e5 : 200 < p.s.size
    · rw [if_neg e1, if_neg e2, if_neg e3, if_pos e4, if_pos e5] at h; cases h
    · exact .inr (.inr (.inr ⟨e4, by rw [if_neg e1, if_neg e2, if_neg e3, if_pos e4, if_neg e5]⟩))
  · rw [if_neg e1, if_neg e2, if_neg e3, if_neg e4] at h; cases h
theorem bl_head {p q : KPart} (h1 : (pbytes p).2 = 0) (h2 : (pbytes q).2 = 0) (h : ¬ p.sort = q.sort) (r s : List UInt8) :
    Op.bytesLess ((pbytes p).1 ++ r) ((pbytes q).1 ++ s) = decide (p.sort < q.sort) := by
  rcases pbytes_cases h1 with ⟨a1, b1⟩ | ⟨a1, b1⟩ | ⟨a1, b1⟩ | ⟨a1, b1⟩ <;> rcases pbytes_cases h2 with ⟨a2, b2⟩ | ⟨a2, b2⟩ | ⟨a2, b2⟩ | ⟨a2, b2⟩ <;>
    first
    | exact absurd (a1.trans a2.symm) h
    | (rw [b1, b2, a1, a2, List.cons_append, List.cons_append, bl_lt (by decide)]; rfl)
    | (rw [b1, b2, a1, a2, List.cons_append, List.cons_append, bl_gt (by decide)]; rfl)
theorem num_step {x y : Nat} {c d : Int} (hx : x < 18446744073709551616) (hy : y < 18446744073709551616) (hlt : c < d ↔ x < y) (hgt : d < c ↔ y < x) (r s : List UInt8) :
    Op.bytesLess (big8 x ++ r) (big8 y ++ s) = if cmpI c d = 0 then Op.bytesLess r s else decide (cmpI c d < 0) := by
  by_cases h1 : x < y
  · rw [cmpI_lt (hlt.2 h1), bl_number hx hy (by omega)]; simp [h1]
  · by_cases h2 : y < x
    · rw [cmpI_gt (hgt.2 h2), bl_number hx hy (by omega)]; simp [h1]
    · obtain rfl : x = y := by omega
      rw [cmpI_eq (fun h => h1 (hlt.1 h)) (fun h => h2 (hgt.1 h)), if_pos rfl, bl_same]
theorem text_step (x y r s : List UInt8) : Op.bytesLess (esc x ++ (0 :: 0 :: r)) (esc y ++ (0 :: 0 :: s)) = if cmpS x y = 0 then Op.bytesLess r s else decide (cmpS x y < 0) := by
  by_cases h : x = y
  · subst h
    have e : cmpS x x = 0 := by unfold cmpS; rw [bl_irrefl, if_neg (by decide), if_pos rfl]
    rw [e, if_pos rfl, bl_same, bl_eq, bl_eq]
  · rw [bl_text x y r s h]
    unfold cmpS
    by_cases hb : Op.bytesLess x y = true
    · rw [if_pos hb, hb]; rfl
    · rw [if_neg hb, if_neg h]
      have : Op.bytesLess x y = false := by simpa using hb
      rw [this]; rfl
/-- one part, and what is behind it -/
theorem bl_part {p q : KPart} (hp : p.ok) (hq : q.ok) (h1 : (pbytes p).2 = 0) (h2 : (pbytes q).2 = 0) (r s : List UInt8) :
    Op.bytesLess ((pbytes p).1 ++ r) ((pbytes q).1 ++ s) = if pcmp p q = 0 then Op.bytesLess r s else decide (pcmp p q < 0) := by
  obtain ⟨_, p1, p2, p3⟩ := hp
  obtain ⟨_, q1, q2, q3⟩ := hq
  have lp := lift_lt p1 p2
  have lq := lift_lt q1 q2
  by_cases h : p.sort = q.sort
  · rcases pbytes_cases h1 with ⟨a1, b1⟩ | ⟨a1, b1⟩ | ⟨a1, b1⟩ | ⟨a1, b1⟩
    · rcases pbytes_cases h2 with ⟨a2, b2⟩ | ⟨a2, b2⟩ | ⟨a2, b2⟩ | ⟨a2, b2⟩ <;> first | (exfalso; omega) | skip
      have e : pcmp p q = cmpI p.n q.n := by unfold pcmp; rw [if_pos h, if_pos a1]
      rw [b1, b2, e, List.cons_append, List.cons_append, bl_eq]
      exact num_step lp lq (by unfold lift; omega) (by unfold lift; omega) r s
    · rcases pbytes_cases h2 with ⟨a2, b2⟩ | ⟨a2, b2⟩ | ⟨a2, b2⟩ | ⟨a2, b2⟩ <;> first | (exfalso; omega) | skip
      have e : pcmp p q = cmpI q.n p.n := by unfold pcmp; rw [if_pos h, if_neg (by omega), if_pos a1]
      rw [b1, b2, e, List.cons_append, List.cons_append, bl_eq]
      exact num_step (by omega) (by omega) (by unfold lift; omega) (by unfold lift; omega) r s
    · rcases pbytes_cases h2 with ⟨a2, b2⟩ | ⟨a2, b2⟩ | ⟨a2, b2⟩ | ⟨a2, b2⟩ <;> first | (exfalso; omega) | skip
      have e : pcmp p q = cmpI p.u q.u := by unfold pcmp; rw [if_pos h, if_neg (by omega), if_neg (by omega), if_pos a1]
      rw [b1, b2, e, List.cons_append, List.cons_append, bl_eq]
      exact num_step p3 q3 (by omega) (by omega) r s
    · rcases pbytes_cases h2 with ⟨a2, b2⟩ | ⟨a2, b2⟩ | ⟨a2, b2⟩ | ⟨a2, b2⟩ <;> first | (exfalso; omega) | skip
      have e : pcmp p q = cmpS p.s.data.toList q.s.data.toList := by unfold pcmp; rw [if_pos h, if_neg (by omega), if_neg (by omega), if_neg (by omega), if_pos a1]
      rw [b1, b2, e, List.cons_append, List.cons_append, bl_eq, List.append_assoc, List.append_assoc]
      exact text_step _ _ r s
  · have e : pcmp p q = cmpI p.sort q.sort := by unfold pcmp; rw [if_neg h]
    rw [bl_head h1 h2 h, e]
    by_cases hl : p.sort < q.sort
    · rw [cmpI_lt (by omega)]; simp [hl]
    · rw [cmpI_gt (by omega)]; simp [hl]
def kbytes (l : List KPart) : List UInt8 := l.flatMap (fun p => (pbytes p).1)
theorem kbytes_ne {p : KPart} (h : (pbytes p).2 = 0) (l : List KPart) : ∃ c r, kbytes (p :: l) = c :: r := by
  unfold kbytes
  rw [List.flatMap_cons]
  rcases pbytes_cases h with ⟨_, b⟩ | ⟨_, b⟩ | ⟨_, b⟩ | ⟨_, b⟩ <;> exact ⟨_, _, by rw [b]; rfl⟩
/-- keys stand in the order of their rows -/
theorem bl_rows : ∀ (a b : List KPart), (∀ p ∈ a, p.ok ∧ (pbytes p).2 = 0) → (∀ p ∈ b, p.ok ∧ (pbytes p).2 = 0) → Op.bytesLess (kbytes a) (kbytes b) = pless a b
  | a, [], _, _ => by rw [pless_nil]; exact bl_nil _
  | [], q :: b, _, hb => by
    obtain ⟨c, r, e⟩ := kbytes_ne (hb q (by simp)).2 b
    rw [e, pless_first]; rfl
  | p :: a, q :: b, ha, hb => by
    have hp := ha p (by simp)
    have hq := hb q (by simp)
    have ih := bl_rows a b (fun x hx => ha x (by simp [hx])) (fun x hx => hb x (by simp [hx]))
    have e := bl_part hp.1 hq.1 hp.2 hq.2 (kbytes a) (kbytes b)
    have e2 : Op.bytesLess (kbytes (p :: a)) (kbytes (q :: b)) = Op.bytesLess ((pbytes p).1 ++ kbytes a) ((pbytes q).1 ++ kbytes b) := rfl
    rw [e2, e, ih]
    by_cases h0 : pcmp p q = 0
    · rw [if_pos h0, pless_on h0]
    · rw [if_neg h0, pless_off h0]
theorem plain_map : ∀ l : List KPart, (∀ p ∈ l, pplain p = p) → l.map pplain = l
  | [], _ => rfl
  | p :: l, h => by rw [List.map_cons, h p (by simp), plain_map l (fun q hq => h q (by simp [hq]))]
/-- a row's key begins those that go on from it, and no others -/
theorem kb_begins : ∀ (a b : List KPart) (t : List UInt8), (∀ p ∈ a, p.ok ∧ (pbytes p).2 = 0 ∧ pplain p = p) → (∀ p ∈ b, p.ok ∧ (pbytes p).2 = 0 ∧ pplain p = p) → kbytes b = kbytes a ++ t → ∃ c, b = a ++ c
  | [], b, _, _, _, _ => ⟨b, rfl⟩
  | p :: a, [], t, ha, _, h => by
    obtain ⟨c, r, e⟩ := kbytes_ne (ha p (by simp)).2.1 a
    rw [e] at h; cases h
  | p :: a, q :: b, t, ha, hb, h => by
    obtain ⟨p1, p2, p3⟩ := ha p (by simp)
    obtain ⟨q1, q2, q3⟩ := hb q (by simp)
    have e1 : kbytes (q :: b) = (pbytes q).1 ++ kbytes b := rfl
    have e2 : kbytes (p :: a) ++ t = (pbytes p).1 ++ (kbytes a ++ t) := by
      show (pbytes p).1 ++ kbytes a ++ t = _
      rw [List.append_assoc]
    rw [e1, e2] at h
    have f1 := pfirst_bytes q1 q2 (kbytes b)
    rw [h, pfirst_bytes p1 p2, p3, q3] at f1
    injection f1 with f1
    injection f1 with f1 f2
    subst f1
    obtain ⟨c, e⟩ := kb_begins a b t (fun x hx => ha x (by simp [hx])) (fun x hx => hb x (by simp [hx])) f2.symm
    exact ⟨c, by rw [e]; rfl⟩
theorem kb_append (a c : List KPart) : kbytes (a ++ c) = kbytes a ++ kbytes c := by unfold kbytes; rw [List.flatMap_append]
theorem kb_equal {a b : List KPart} (ha : ∀ p ∈ a, p.ok ∧ (pbytes p).2 = 0 ∧ pplain p = p) (hb : ∀ p ∈ b, p.ok ∧ (pbytes p).2 = 0 ∧ pplain p = p) (h : kbytes a = kbytes b) : a = b := by
  have e1 : pparts (kbytes a) = some (a.map pplain) := pparts_bytes a (fun p hp => (ha p hp).1) (fun p hp => (ha p hp).2.1)
  have e2 : pparts (kbytes b) = some (b.map pplain) := pparts_bytes b (fun p hp => (hb p hp).1) (fun p hp => (hb p hp).2.1)
  have m1 : a.map pplain = a := plain_map a (fun p hp => (ha p hp).2.2)
  have m2 : b.map pplain = b := plain_map b (fun p hp => (hb p hp).2.2)
  rw [h, e2, m1, m2] at e1
  injection e1 with e1
  exact e1.symm
end Go.Proofs.YtadejeoiffaimaaDoor
