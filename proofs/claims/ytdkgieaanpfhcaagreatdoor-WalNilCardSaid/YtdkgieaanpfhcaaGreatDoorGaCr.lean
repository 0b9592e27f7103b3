/-
  Several texts in one: CrMath, CrA, CrB, CrC. Conditions: as each theorem states.
-/
import Derived.Test.YtdkgieaanpfhcaaGreatDoorRows
import Derived.WalkKit
import Derived.ProofKit
import Derived.OpenShut
import Derived.Lib.Hide
import Derived.Outline
import Derived.WalkMore
import Derived.ScopeJumps
import Derived.Deep.WholeRow
import Derived.Deep.LoopGhost
namespace Go.Proofs.YtdkgieaanpfhcaaGreatDoor.Crc

def stp (n : Nat) : Nat := if n % 2 = 1 then (n / 2) ^^^ 2197175160 else n / 2
def stps : Nat → Nat → Nat
  | 0, n => n
  | k + 1, n => stps k (stp n)
def byt (n : Nat) : Nat := stps 8 n
def upd (s : Nat) (c : UInt8) : Nat := byt ((s % 256) ^^^ c.toNat) ^^^ (s / 256)
def run (s : Nat) (l : List UInt8) : Nat := l.foldl upd s
def neg32 (s : Nat) : Nat := 4294967295 - s
def add (s : Nat) (l : List UInt8) : Nat := neg32 (run (neg32 s) l)
def ofL (l : List UInt8) : Nat := add 0 l

theorem stp_lt {n : Nat} (h : n < 4294967296) : stp n < 4294967296 := by
  unfold stp
  split
  · exact Nat.xor_lt_two_pow (n := 32) (by omega) (by decide)
  · omega
theorem stps_lt (k : Nat) : ∀ {n : Nat}, n < 4294967296 → stps k n < 4294967296 := by
  induction k with
  | zero => intro n h; exact h
  | succ k ih => intro n h; exact ih (stp_lt h)
theorem stps_succ (k : Nat) : ∀ n, stps (k + 1) n = stp (stps k n) := by
  induction k with
  | zero => intro n; rfl
  | succ k ih => intro n; show stps (k + 1) (stp n) = _; rw [ih]; rfl
theorem byt_lt {n : Nat} (h : n < 4294967296) : byt n < 4294967296 := stps_lt 8 h
theorem xor8_lt {s : Nat} (c : UInt8) : (s % 256) ^^^ c.toNat < 256 :=
  Nat.xor_lt_two_pow (n := 8) (Nat.mod_lt _ (by decide)) c.toNat_lt
theorem upd_lt {s : Nat} (c : UInt8) (h : s < 4294967296) : upd s c < 4294967296 := by
  unfold upd
  exact Nat.xor_lt_two_pow (n := 32) (byt_lt (Nat.lt_trans (xor8_lt c) (by decide))) (by omega)
theorem run_lt (l : List UInt8) : ∀ {s : Nat}, s < 4294967296 → run s l < 4294967296 := by
  induction l with
  | nil => intro s h; exact h
  | cons c l ih => intro s h; exact ih (upd_lt c h)
theorem run_append (s : Nat) (l r : List UInt8) : run s (l ++ r) = run (run s l) r := by
  unfold run; rw [List.foldl_append]
theorem run_snoc (s : Nat) (l : List UInt8) (c : UInt8) : run s (l ++ [c]) = upd (run s l) c := by
  rw [run_append]; rfl
theorem neg_lt (s : Nat) : neg32 s < 4294967296 := by unfold neg32; omega
theorem neg_neg32 {s : Nat} (h : s < 4294967296) : neg32 (neg32 s) = s := by unfold neg32; omega
theorem add_lt (s : Nat) (l : List UInt8) : add s l < 4294967296 := neg_lt _
theorem add_add (s : Nat) (l r : List UInt8) : add (add s l) r = add s (l ++ r) := by
  unfold add
  rw [neg_neg32 (run_lt l (neg_lt s)), run_append]
theorem neg_xor {s : Nat} (h : s < 4294967296) : 4294967295 ^^^ s = neg32 s := by
  unfold neg32
  have e : (4294967295 : Nat) = 2 ^ 32 - 1 := by decide
  apply Nat.eq_of_testBit_eq
  intro i
  rw [Nat.testBit_xor]
  have h2 : (4294967295 - s) = 2 ^ 32 - (s + 1) := by omega
  rw [h2, Nat.testBit_two_pow_sub_succ (by omega), e, Nat.testBit_two_pow_sub_one]
  by_cases hi : i < 32
  · simp [hi]
  · have : s.testBit i = false := Nat.testBit_lt_two_pow (Nat.lt_of_lt_of_le h (by
      have := Nat.pow_le_pow_right (n := 2) (by decide) (show 32 ≤ i by omega); simpa using this))
    simp [hi, this]
end Go.Proofs.YtdkgieaanpfhcaaGreatDoor.Crc
namespace Go.Proofs.YtdkgieaanpfhcaaGreatDoor.Crc
open Go.RowKit

theorem ret_int {k : IntKind} {a b : Int} (h : a = b) : Ending.returned (.int k a) = .returned (.int k b) := by rw [h]
theorem val_int {k : IntKind} {a b : Int} (h : a = b) : Value.int k a = .int k b := by rw [h]

theorem stp_odd {m : Nat} (hlt : m < 4294967296) (h : ((m : Int) % 2 == 1) = true) : bits .xor .u32 ((m : Int) / 2) 2197175160 = ((stp m : Nat) : Int) := by
  have h1 : m % 2 = 1 := by simp at h; omega
  unfold stp
  rw [if_pos h1]
  have := u32_xor_nat (m / 2) 2197175160 (by omega) (by decide)
  rw [← this]; rfl
theorem stp_even {m : Nat} (h : ((m : Int) % 2 == 1) = false) : (m : Int) / 2 = ((stp m : Nat) : Int) := by
  have h1 : ¬ m % 2 = 1 := by simp at h; omega
  unfold stp
  rw [if_neg h1]; rfl

theorem byte_any (n : Nat) (hn : n < 4294967296) (w : World) :
    Calls Tryz.prog 145 #[.int .u32 n] w fun e w' => e = .returned (.int .u32 (byt n)) ∧ w = w' := by
  go_enter Tryz.func145, Tryz.ntmps145
  go_wp2
  go_loop [0, 3] (fun x i => ∃ k m : Nat, k ≤ 8 ∧ m = stps k n ∧ x = .int .u32 m ∧ i = .int .i64 k) (fun _ i => 8 - (intOf i).toNat)
  case atStart => exact ⟨0, n, by omega, rfl, rfl, rfl⟩
  case round =>
    obtain ⟨k, m, hk, hm, rfl, rfl⟩ := hrel
    have HM := Lib.hid hm
    have hlt : m < 4294967296 := by rw [hm]; exact stps_lt k hn
    clear hm
    by_cases h8 : k < 8
    · go_wp2
      · have ho : ((m : Int) % 2 == 1) = true := by assumption
        go_round
        case rel => exact ⟨k + 1, stp m, by omega, by rw [stps_succ, ← HM.out], val_int (stp_odd hlt ho), by go_num⟩
        case measure => simp [intOf]; omega
      · have ho : ((m : Int) % 2 == 1) = false := by assumption
        go_round
        case rel => exact ⟨k + 1, stp m, by omega, by rw [stps_succ, ← HM.out], val_int (stp_even ho), by go_num⟩
        case measure => simp [intOf]; omega
    · go_wp2
      go_ret
      obtain rfl : k = 8 := by omega
      exact ⟨ret_int (by rw [HM.out]; rfl), rfl⟩

theorem and1 {m : Nat} (hlt : m < 4294967296) : bits .and .u32 (m : Int) 1 = (m : Int) % 2 := by
  have := u32_and_nat m 1 hlt (by decide)
  rw [nat_mask1] at this
  exact this

def NumJ (b : Nat) (w : World) (a' : Act) (w' : World) : Prop :=
  w = w' ∧ ∃ (k m : Nat) (u5 u6 u7 u8 u9 u10 u11 u12 u13 u14 u15 u16 u17 u18 u19 : Value), a' = { tmps := #[.int .u8 b, undef, .int .u32 0, .int .u32 m, .int .i64 ((k : Nat) : Int), u5, u6, u7, u8, u9, u10, u11, u12, u13, u14, u15, u16, u17, u18, u19, undef], defers := [] } ∧ k ≤ 8 ∧ 1 ≤ k ∧ m = stps (8 - k) b
def numMu (a' : Act) : Nat := (intOf (a'.tmps.getD 4 undef)).toNat

theorem number_any (b : Nat) (hb : b < 256) (w : World) :
    Calls Tryz.prog 179 #[.int .u8 b] w fun e w' => e = .returned (.int .u32 (byt b)) ∧ w = w' := by
  go_enter Tryz.func179, Tryz.ntmps179
  go_wp2
  refine wp_scope_jumps 0 (NumJ b w) (fun a' _ => numMu a') rfl ?_ ?_
  · go_wp2
    go_step3
    go_wp2
    · have ho : (bits .and .u32 (b : Int) 1 == 1) = true := by assumption
      rw [and1 (by omega)] at ho
      go_step3
      rw [stp_odd (by omega) ho]
      exact ⟨rfl, rfl, 7, stp b, _, _, _, _, _, _, _, _, _, _, _, _, _, _, _, rfl, by omega, by omega, rfl⟩
    · have ho : (bits .and .u32 (b : Int) 1 == 1) = false := by assumption
      rw [and1 (by omega)] at ho
      go_step3
      rw [stp_even ho]
      exact ⟨rfl, rfl, 7, stp b, _, _, _, _, _, _, _, _, _, _, _, _, _, _, _, rfl, by omega, by omega, rfl⟩
  · rintro a' w' ⟨rfl, k, m, u5, u6, u7, u8, u9, u10, u11, u12, u13, u14, u15, u16, u17, u18, u19, rfl, hk, hk1, hm⟩
    have HM := Lib.hid hm
    have hlt : m < 4294967296 := by rw [hm]; exact stps_lt _ (by omega)
    clear hm
    go_wp2
    · have ho : (bits .and .u32 (m : Int) 1 == 1) = true := by assumption
      rw [and1 hlt] at ho
      go_step3
      rw [stp_odd hlt ho]
      obtain ⟨j, rfl⟩ : ∃ j, k = j + 1 := ⟨k - 1, by omega⟩
      have ek : (((j + 1 : Nat) : Int) - 1) = (j : Int) := by omega
      rw [ek]
      refine ⟨rfl, ⟨rfl, j, stp m, _, _, _, _, _, _, _, _, _, _, _, _, _, _, _, rfl, by omega, by omega, ?_⟩, ?_⟩
      · rw [HM.out, ← stps_succ]; congr 1; omega
      · simp [numMu, intOf]
    · have ho : (bits .and .u32 (m : Int) 1 == 1) = true := by assumption
      have hk1' : (k : Int) ≤ 1 := by assumption
      rw [and1 hlt] at ho
      simp only [Exit.jump]
      go_ret
      obtain rfl : k = 1 := by omega
      exact ⟨ret_int (by rw [stp_odd hlt ho, HM.out, ← stps_succ]; rfl), rfl⟩
    · have ho : (bits .and .u32 (m : Int) 1 == 1) = false := by assumption
      rw [and1 hlt] at ho
      go_step3
      rw [stp_even ho]
      obtain ⟨j, rfl⟩ : ∃ j, k = j + 1 := ⟨k - 1, by omega⟩
      have ek : (((j + 1 : Nat) : Int) - 1) = (j : Int) := by omega
      rw [ek]
      refine ⟨rfl, ⟨rfl, j, stp m, _, _, _, _, _, _, _, _, _, _, _, _, _, _, _, rfl, by omega, by omega, ?_⟩, ?_⟩
      · rw [HM.out, ← stps_succ]; congr 1; omega
      · simp [numMu, intOf]
    · have ho : (bits .and .u32 (m : Int) 1 == 1) = false := by assumption
      have hk1' : (k : Int) ≤ 1 := by assumption
      rw [and1 hlt] at ho
      simp only [Exit.jump]
      go_ret
      obtain rfl : k = 1 := by omega
      exact ⟨ret_int (by rw [stp_even ho, HM.out, ← stps_succ]; rfl), rfl⟩
theorem number_at {x : Int} {b : Nat} (hx : x = b) (hb : b < 256) (w : World) :
    Calls Tryz.prog 179 #[.int .u8 x] w fun e w' => e = .returned (.int .u32 (byt b)) ∧ w = w' := by
  subst hx; exact number_any b hb w
theorem byte_at {x : Int} {b : Nat} (hx : x = b) (hb : b < 4294967296) (w : World) :
    Calls Tryz.prog 145 #[.int .u32 x] w fun e w' => e = .returned (.int .u32 (byt b)) ∧ w = w' := by
  subst hx; exact byte_any b hb w
theorem xor8 (m : Nat) (c : UInt8) : bits .xor .u8 ((m : Int) % 256) (c.toNat : Int) = ((m % 256 ^^^ c.toNat : Nat) : Int) := by
  have := u8_xor_nat (m % 256) c.toNat (by omega) c.toNat_lt
  rw [← this]; rfl
theorem xor832 (m : Nat) (c : UInt8) : bits .xor .u32 ((m : Int) % 256) ((c.toNat : Int) % 4294967296) = ((m % 256 ^^^ c.toNat : Nat) : Int) := by
  have hc := c.toNat_lt
  have e : ((c.toNat : Int) % 4294967296) = (c.toNat : Int) := by omega
  rw [e]
  have := u32_xor_nat (m % 256) c.toNat (by omega) (Nat.lt_trans c.toNat_lt (by decide))
  rw [← this]; rfl
theorem upd_eq (m : Nat) (hm : m < 4294967296) (c : UInt8) : bits .xor .u32 ((byt (m % 256 ^^^ c.toNat) : Nat) : Int) ((m : Int) / 256) = ((upd m c : Nat) : Int) := by
  have := u32_xor_nat (byt (m % 256 ^^^ c.toNat)) (m / 256) (byt_lt (Nat.lt_trans (xor8_lt c) (by decide))) (by omega)
  unfold upd
  rw [← this]; rfl
theorem take_snoc (s : ByteArray) (k : Nat) (h : k < s.size) : s.data.toList.take (k + 1) = s.data.toList.take k ++ [s[k]] := by
  rw [List.take_succ_eq_append_getElem (by simpa using h)]; rfl
theorem take_all (s : ByteArray) (k : Nat) (h : s.size ≤ k) : s.data.toList.take k = s.data.toList :=
  List.take_of_length_le (by simpa using h)
theorem stepped_any (n : Nat) (hn : n < 4294967296) (s : ByteArray) (hs : s.size ≤ maxLen) (w : World) :
    Calls Tryz.prog 163 #[.int .u32 n, .string s] w fun e w' => e = .returned (.int .u32 (run n s.data.toList)) ∧ w = w' := by
  unfold maxLen at hs
  go_enter Tryz.func163, Tryz.ntmps163
  go_wp2
  go_loop [0, 8] (fun x i => ∃ k m : Nat, k ≤ s.size ∧ m = run n (s.data.toList.take k) ∧ x = .int .u32 m ∧ i = .int .i64 k) (fun _ i => s.size - (intOf i).toNat)
  case atStart => exact ⟨0, n, by omega, rfl, rfl, rfl⟩
  case round =>
    obtain ⟨k, m, hk, hm, rfl, rfl⟩ := hrel
    have HM := Lib.hid hm
    have hlt : m < 4294967296 := by rw [hm]; exact run_lt _ hn
    clear hm
    by_cases h8 : k < s.size
    · go_wp2_with (go_at_call 179; refine (number_at (xor8 m s[k]) (xor8_lt _) _).mono ?_; rintro e w' ⟨rfl, rfl⟩)
      go_round
      case rel => exact ⟨k + 1, upd m s[k], by omega, by rw [take_snoc s k h8, run_snoc, ← HM.out], val_int (upd_eq m hlt _), by go_num⟩
      case measure => simp [intOf]; omega
    · go_wp2
      go_ret
      exact ⟨ret_int (by rw [HM.out, take_all s k (by omega)]), rfl⟩
theorem refAdd_any (n : Nat) (hn : n < 4294967296) (s : ByteArray) (hs : s.size ≤ maxLen) (w : World) :
    Calls Tryz.prog 116 #[.int .u32 n, .string s] w fun e w' => e = .returned (.int .u32 (add n s.data.toList)) ∧ w = w' := by
  unfold maxLen at hs
  go_enter Tryz.func116, Tryz.ntmps116
  go_wp2
  go_loop [0, 5] (fun x i => ∃ k m : Nat, k ≤ s.size ∧ m = run (neg32 n) (s.data.toList.take k) ∧ x = .int .u32 m ∧ i = .int .i64 k) (fun _ i => s.size - (intOf i).toNat)
  case atStart => exact ⟨0, neg32 n, by omega, rfl, val_int (by unfold neg32; omega), rfl⟩
  case round =>
    obtain ⟨k, m, hk, hm, rfl, rfl⟩ := hrel
    have HM := Lib.hid hm
    have hlt : m < 4294967296 := by rw [hm]; exact run_lt _ (neg_lt _)
    clear hm
    by_cases h8 : k < s.size
    · go_wp2_with (go_at_call 145; with_reducible refine (byte_at (xor832 m s[k]) (Nat.lt_trans (xor8_lt _) (by decide)) _).mono ?_; rintro e w' ⟨rfl, rfl⟩)
      go_round
      case rel => exact ⟨k + 1, upd m s[k], by omega, by rw [take_snoc s k h8, run_snoc, ← HM.out], val_int (upd_eq m hlt _), by go_num⟩
      case measure => simp [intOf]; omega
    · go_wp2
      go_ret
      refine ⟨ret_int ?_, rfl⟩
      unfold add
      rw [← take_all s k (by omega), ← HM.out]
      unfold neg32; omega


end Go.Proofs.YtdkgieaanpfhcaaGreatDoor.Crc
namespace Go.Proofs.YtdkgieaanpfhcaaGreatDoor.Crc
open Go.RowKit
def tabAt (k j : Nat) : Value := .int .u32 (if j < k then byt j else 0)
def IsTab (k : Nat) (cs : Array Value) : Prop := cs.size = 256 ∧ ∀ j, j < 256 → cs[j]? = some (tabAt k j)
def zc : Array Value := Array.replicate 256 (.int .u32 0)
theorem zeros : zc = Array.replicate 256 (.int .u32 0) := rfl
@[simp] theorem zc_value (w : World) : (zeroValue 210).run Tryz.prog w = .ok (.agg zc) w := by kernel_rfl
theorem zc_size : zc.size = 256 := by rw [zeros]; simp
@[simp] theorem zc_ne : ¬ zc = #[] := fun h => by have := zc_size; rw [h] at this; simp at this
attribute [irreducible] zc
theorem isTab_zero : IsTab 0 zc := by
  rw [zeros]
  refine ⟨by simp, fun j hj => ?_⟩
  simp [tabAt, hj]
theorem heap_setRow (w : World) (g : Nat) (c : Array Value) (k : Nat) (h : k ≠ g) : (w.setRow g c).heap[k]? = w.heap[k]? := by
  simp only [World.setRow, Array.getElem?_modify]
  rw [if_neg (by omega)]
theorem below_setRow {B : Nat} {a w : World} (h : Below B a w) {g : Nat} (hg : B ≤ g) (c : Array Value) : Below B a (w.setRow g c) :=
  h.trans ⟨rfl, rfl, rfl, by simp [World.setRow], fun k hk => heap_setRow _ _ _ _ (by omega)⟩
theorem heap_setRow_at {w : World} {g : Nat} {old c : Array Value} {t : TypeId} {fr : Nat × Nat} (h : w.heap[g]? = some (.cells old t fr)) : (w.setRow g c).heap[g]? = some (.cells c t fr) := by
  simp only [World.setRow, Array.getElem?_modify]
  rw [if_pos trivial, h]
  rfl
theorem isTab_one {k : Nat} {cs : Array Value} (h : IsTab k cs) : cs.all (·.oneCell') = true := by
  rw [Array.all_eq_true]
  intro i hi
  have h2 := h.2 i (by rw [← h.1]; exact hi)
  rw [Array.getElem?_eq_getElem hi] at h2
  injection h2 with h2
  rw [h2]; rfl
theorem isTab_set {k : Nat} {cs : Array Value} (h : IsTab k cs) (hk : k < 256) : IsTab (k + 1) (cs.setIfInBounds k (.int .u32 (byt k))) := by
  refine ⟨by simpa using h.1, fun j hj => ?_⟩
  rw [Array.getElem?_setIfInBounds]
  split
  · next e => subst e; rw [if_pos (by rw [h.1]; exact hk)]; simp [tabAt]
  · next e =>
    rw [h.2 j hj]
    unfold tabAt
    have : (j < k + 1) ↔ (j < k) := by omega
    simp only [this]
set_option maxRecDepth 100000 in
theorem table_any (w : World) :
    Calls Tryz.prog 180 #[] w fun e w' => ∃ cs, IsTab 256 cs ∧ e = .returned (.agg cs) ∧ Below w.heap.size w w' := by
  obtain ⟨Z, hZ⟩ : ∃ Z, Z = zc := ⟨_, rfl⟩
  have HZ : IsTab 0 Z := by rw [hZ]; exact isTab_zero
  have H := Lib.hid hZ
  clear hZ
  go_enter Tryz.func180, Tryz.ntmps180
  go_wp2
  first
    | rw [← H.out]
    | rw [show Tryz.zeroCells210 = Z by rw [H.out]; kernel_rfl]
  go_loopw [3] (fun i wr => ∃ (k : Nat) (cs : Array Value), k ≤ 256 ∧ i = .int .i64 k ∧ IsTab k cs ∧ wr = (w.alloc (Obj.cells Z 210)).alloc (Obj.cells cs 210)) (fun i _ => 256 - (intOf i).toNat)
  case atStart => exact ⟨0, _, by omega, rfl, HZ, rfl⟩
  case round =>
    obtain ⟨k, cs, hk, rfl, hT, rfl⟩ := hrel
    by_cases h8 : k < 256
    · have hsz := Lib.hid hT.1
      have hg := hT.2 k h8
      go_wp2_with (go_at_call 179; with_reducible refine (number_at (b := k) (by omega) h8 _).mono ?_; rintro e w' ⟨rfl, rfl⟩)
      go_roundw
      case rel => exact ⟨k + 1, _, by omega, by go_num, isTab_set hT h8, rfl⟩
      case measure => simp [intOf]; omega
    · obtain rfl : k = 256 := by omega
      have HT := Lib.hid hT
      have hzs := Lib.hid HZ.1
      have hsz := Lib.hid hT.1
      have hone := Lib.hid (isTab_one hT)
      clear hT HZ
      have hgl : Hid (((w.alloc (Obj.cells Z 210)).alloc (Obj.cells cs 210)).heap[w.heap.size + 1]? = some (Obj.cells cs 210)) := by
        have h := heap_alloc_last (w.alloc (Obj.cells Z 210)) (Obj.cells cs 210)
        rw [show (w.alloc (Obj.cells Z 210)).heap.size = w.heap.size + 1 by simp] at h
        exact h
      have hgs : Hid (((w.alloc (Obj.cells Z 210)).alloc (Obj.cells cs 210)).heap[w.heap.size]? = some (Obj.cells Z 210)) :=
        (Below.heap_alloc _ _ _ (by simp)).trans (heap_alloc_last w _)
      have hi : Hid ((Tryz.prog.info? 210).map (·.size) = some cs.size) := by rw [Hid, hsz.out]; kernel_rfl
      go_wp2_with (first
        | (with_reducible refine wpList_load_row (o := ⟨some 12, .load 210 (.tmp 1), _, _, _, _⟩) ?_ 210 (.tmp 1) ?_ (w.heap.size + 1) ?_ 210 cs (0, 0) (.array 256 134) hgl.out Tryz.underlying210 ?_ hi.out ?_
           · rfl
           · rfl
           · rfl
           · rfl)
        | (with_reducible refine wpList_store_row (o := ⟨none, .store 210 (.tmp 0) (.tmp 12), _, _, _, _⟩) ?_ 210 (.tmp 0) (.tmp 12) ?_ w.heap.size cs ?_ ?_ 210 Z hgs.out hi.out (hzs.out.trans hsz.out.symm) hone.out ?_
           · rfl
           · rfl
           · rfl
           · rfl))
      refine bodyPost_ret (v := .agg cs) ?_ rfl ⟨cs, HT.out, rfl, ?_⟩
      · refine results_cell_row rfl _ _ w.heap.size 210 cs (0, 0) (.array 256 134) rfl ?_ Tryz.underlying210 rfl hi.out
        exact heap_setRow_at hgs.out
      · exact below_setRow (((Below.refl _ _).alloc (Nat.le_refl _) _).alloc (by simp) _) (Nat.le_refl _) _

theorem isTab_at {cs : Array Value} (h : IsTab 256 cs) {j : Nat} (hj : j < 256) : cs[j]? = some (.int .u32 (byt j)) := by
  rw [h.2 j hj]; simp [tabAt, hj]
theorem xor8_bd (m : Nat) (c : UInt8) : 0 ≤ bits .xor .u8 ((m : Int) % 256) (c.toNat : Int) ∧ bits .xor .u8 ((m : Int) % 256) (c.toNat : Int) < 256 := by
  rw [xor8]; have := xor8_lt (s := m) c; omega
theorem isTab_size {k : Nat} {cs : Array Value} (h : IsTab k cs) : zc.size = cs.size := zc_size.trans h.1.symm
theorem isTab_info {k : Nat} {cs : Array Value} (h : IsTab k cs) : (Tryz.prog.info? 210).map (·.size) = some cs.size := by rw [h.1]; kernel_rfl
set_option maxRecDepth 100000 in
theorem byTable_any (n : Nat) (hn : n < 4294967296) (s : ByteArray) (hs : s.size ≤ maxLen) (w : World) :
    Calls Tryz.prog 164 #[.int .u32 n, .string s] w fun e w' => e = .returned (.int .u32 (run n s.data.toList)) ∧ Below w.heap.size w w' := by
  unfold maxLen at hs
  go_enter Tryz.func164, Tryz.ntmps164
  go_wp2_with (first
    | (go_at_call 180; refine (table_any _).mono ?_; rintro e w1 ⟨cs, hT, rfl, hb⟩)
    | (with_reducible refine wpList_store_row (o := ⟨none, .store 210 (.tmp 5) (.tmp 7), _, _, _, _⟩) ?_ 210 (.tmp 5) (.tmp 7) ?_ w1.heap.size cs ?_ ?_ 210 zc (heap_alloc_last w1 _) (isTab_info hT) (isTab_size hT) (isTab_one hT) ?_
       · rfl
       · rfl
       · rfl
       · rfl
       rw [World.setRow_alloc_new])
    | (with_reducible refine wpList_store_row (o := ⟨none, .store 210 (.tmp 5) (.tmp 7), _, _, _, _⟩) ?_ 210 (.tmp 5) (.tmp 7) ?_ w1.heap.size cs ?_ ?_ 210 Tryz.zeroCells210 (heap_alloc_last w1 _) (isTab_info hT) ((show Tryz.zeroCells210.size = zc.size by rw [show Tryz.zeroCells210 = zc by kernel_rfl]).trans (isTab_size hT)) (isTab_one hT) ?_
       · rfl
       · rfl
       · rfl
       · rfl
       rw [World.setRow_alloc_new]))
  go_loop [0, 10] (fun x i => ∃ k m : Nat, k ≤ s.size ∧ m = run n (s.data.toList.take k) ∧ x = .int .u32 m ∧ i = .int .i64 k) (fun _ i => s.size - (intOf i).toNat)
  case atStart => exact ⟨0, n, by omega, rfl, rfl, rfl⟩
  case round =>
    obtain ⟨k, m, hk, hm, rfl, rfl⟩ := hrel
    have HM := Lib.hid hm
    have hlt : m < 4294967296 := by rw [hm]; exact run_lt _ hn
    have hsz : 256 ≤ cs.size := by rw [hT.1]; exact Nat.le_refl _
    clear hm
    by_cases h8 : k < s.size
    · obtain ⟨j, hj⟩ : ∃ j, m % 256 ^^^ s[k].toNat = j := ⟨_, rfl⟩
      have hxe := xor8 m s[k]
      rw [hj] at hxe
      have hj256 : j < 256 := by rw [← hj]; exact xor8_lt _
      have hc := isTab_at hT hj256
      have HJ := Lib.hid hj
      clear hj
      go_wp2
      go_round
      case rel => exact ⟨k + 1, upd m s[k], by omega, by rw [take_snoc s k h8, run_snoc, ← HM.out], val_int (by rw [← HJ.out]; exact upd_eq m hlt _), by go_num⟩
      case measure => simp [intOf]; omega
    · go_wp2
      go_ret
      exact ⟨ret_int (by rw [HM.out, take_all s k (by omega)]), hb.alloc hb.size _⟩
end Go.Proofs.YtdkgieaanpfhcaaGreatDoor.Crc
namespace Go.Proofs.YtdkgieaanpfhcaaGreatDoor.Crc
open Go.RowKit

theorem inv32 {m : Nat} (h : m < 4294967296) : bits .xor .u32 IntKind.u32.max (m : Int) = ((neg32 m : Nat) : Int) := by
  have := u32_xor_nat 4294967295 m (by decide) h
  rw [neg_xor h] at this
  exact this
theorem stepped_at {x : Int} {n : Nat} (hx : x = n) (hn : n < 4294967296) (s : ByteArray) (hs : s.size ≤ maxLen) (w : World) :
    Calls Tryz.prog 163 #[.int .u32 x, .string s] w fun e w' => e = .returned (.int .u32 (run n s.data.toList)) ∧ w = w' := by
  subst hx; exact stepped_any n hn s hs w
theorem byTable_at {x : Int} {n : Nat} (hx : x = n) (hn : n < 4294967296) (s : ByteArray) (hs : s.size ≤ maxLen) (w : World) :
    Calls Tryz.prog 164 #[.int .u32 x, .string s] w fun e w' => e = .returned (.int .u32 (run n s.data.toList)) ∧ Below w.heap.size w w' := by
  subst hx; exact byTable_any n hn s hs w
set_option maxRecDepth 100000 in
theorem add_any (n : Nat) (hn : n < 4294967296) (s : ByteArray) (hs : s.size ≤ maxLen) (w : World) :
    Calls Tryz.prog 142 #[.int .u32 n, .string s] w fun e w' => e = .returned (.int .u32 (add n s.data.toList)) ∧ Below w.heap.size w w' := by
  have hM : Hid (s.size ≤ maxLen) := hs
  unfold maxLen at hs
  by_cases h : s.size < 256
  · go_enter Tryz.func142, Tryz.ntmps142
    go_wp2_with (go_at_call 163; refine (stepped_at (inv32 hn) (neg_lt n) s hM.out _).mono ?_; rintro e w' ⟨rfl, rfl⟩)
    go_ret
    exact ⟨ret_int (by rw [inv32 (run_lt _ (neg_lt n))]; rfl), Below.refl _ _⟩
  · have h' : 256 ≤ s.size := by omega
    go_enter Tryz.func142, Tryz.ntmps142
    go_wp2_with (go_at_call 164; refine (byTable_at (inv32 hn) (neg_lt n) s hM.out _).mono ?_; rintro e w' ⟨rfl, hb⟩)
    go_ret
    exact ⟨ret_int (by rw [inv32 (run_lt _ (neg_lt n))]; rfl), hb⟩
theorem rot_join (n p q i : Nat) (hn : n < 4294967296) (hi : 2 ^ i = q) (hpq : p * q = 4294967296) (hp : 0 < p) :
    bits .or .u32 ((n : Int) * (q : Int) % 4294967296) ((n : Int) / (p : Int)) = ((n % p * q + n / p : Nat) : Int) := by
  have e1 : (n * q) % 4294967296 = n % p * q := by rw [← hpq, Nat.mul_mod_mul_right]
  have hlt : n / p < q := by rw [Nat.div_lt_iff_lt_mul hp, Nat.mul_comm, hpq]; exact hn
  have hmq : q ≤ 4294967296 := by rw [← hpq]; exact Nat.le_mul_of_pos_left _ hp
  have := u32_or_nat (n * q % 4294967296) (n / p) (Nat.mod_lt _ (by decide)) (Nat.lt_of_lt_of_le hlt hmq)
  rw [nat_join i _ _ (by rw [e1, hi, Nat.mul_mod_left]) (by rw [hi]; exact hlt), e1] at this
  rw [← this]
  congr 1
  rw [← e1]; simp
theorem rotm15 (n : Nat) (hn : n < 4294967296) (w : World) :
    Calls Tryz.prog 141 #[.int .u32 n, .int .i64 (-15)] w fun e w' => e = .returned (.int .u32 ((n % 32768 * 131072 + n / 32768 : Nat) : Int)) ∧ w = w' := by
  have h1 : bits .and .u64 15 31 = 15 := by kernel_rfl
  have h2 : bits .and .u64 (IntKind.u64.wrap (-15)) 31 = 17 := by kernel_rfl
  go_enter Tryz.func141, Tryz.ntmps141
  go_wp2
  go_ret
  exact ⟨ret_int (rot_join n 32768 131072 17 hn rfl rfl (by decide)), rfl⟩
def mask (n : Nat) : Nat := (n % 32768 * 131072 + n / 32768 + 2726488792) % 4294967296
def unmask (m : Nat) : Nat := (m + 4294967296 - 2726488792) % 4294967296 % 131072 * 32768 + (m + 4294967296 - 2726488792) % 4294967296 / 131072
theorem mask_lt (n : Nat) : mask n < 4294967296 := Nat.mod_lt _ (by decide)
theorem unmask_lt (n : Nat) : unmask n < 4294967296 := by unfold unmask; omega
def r17 (n : Nat) : Nat := n % 32768 * 131072 + n / 32768
def r15 (n : Nat) : Nat := n % 131072 * 32768 + n / 131072
theorem r17_lt {n : Nat} (h : n < 4294967296) : r17 n < 4294967296 := by unfold r17; omega
theorem r15_17 {n : Nat} (h : n < 4294967296) : r15 (r17 n) = n := by
  have a : r17 n % 131072 = n / 32768 := by unfold r17; omega
  have b : r17 n / 131072 = n % 32768 := by unfold r17; omega
  unfold r15
  rw [a, b]; omega
theorem r17_15 {n : Nat} (h : n < 4294967296) : r17 (r15 n) = n := by
  have a : r15 n % 32768 = n / 131072 := by unfold r15; omega
  have b : r15 n / 32768 = n % 131072 := by unfold r15; omega
  unfold r17
  rw [a, b]; omega
theorem mask_r (n : Nat) : mask n = (r17 n + 2726488792) % 4294967296 := rfl
theorem unmask_r (n : Nat) : unmask n = r15 ((n + 4294967296 - 2726488792) % 4294967296) := rfl
theorem unmask_mask {n : Nat} (h : n < 4294967296) : unmask (mask n) = n := by
  have h1 := r17_lt h
  have e : (mask n + 4294967296 - 2726488792) % 4294967296 = r17 n := by rw [mask_r]; omega
  rw [unmask_r, e, r15_17 h]
theorem mask_unmask {n : Nat} (h : n < 4294967296) : mask (unmask n) = n := by
  rw [mask_r, unmask_r, r17_15 (Nat.mod_lt _ (by decide))]; omega
theorem refMask_any (n : Nat) (hn : n < 4294967296) (w : World) :
    Calls Tryz.prog 85 #[.int .u32 n] w fun e w' => e = .returned (.int .u32 (mask n)) ∧ w = w' := by
  go_enter Tryz.func85, Tryz.ntmps85
  go_wp2
  go_ret
  exact ⟨ret_int (by unfold mask; omega), rfl⟩
theorem mask_any (n : Nat) (hn : n < 4294967296) (w : World) :
    Calls Tryz.prog 110 #[.int .u32 n] w fun e w' => e = .returned (.int .u32 (mask n)) ∧ w = w' := by
  go_enter Tryz.func110, Tryz.ntmps110
  go_wp2_with (go_at_call 141; refine (rotm15 n hn _).mono ?_; rintro e w' ⟨rfl, rfl⟩)
  go_ret
  exact ⟨ret_int (by unfold mask; omega), rfl⟩
theorem of_any (s : ByteArray) (hs : s.size ≤ maxLen) (w : World) :
    Calls Tryz.prog 111 #[.string s] w fun e w' => e = .returned (.int .u32 (ofL s.data.toList)) ∧ Below w.heap.size w w' := by
  have hM : Hid (s.size ≤ maxLen) := hs
  clear hs
  go_enter Tryz.func111, Tryz.ntmps111
  go_wp2_with (go_at_call 142; refine (add_any 0 (by decide) s hM.out _).mono ?_; rintro e w' ⟨rfl, hb⟩)
  go_ret
  exact ⟨rfl, hb⟩
theorem refOf_any (s : ByteArray) (hs : s.size ≤ maxLen) (w : World) :
    Calls Tryz.prog 86 #[.string s] w fun e w' => e = .returned (.int .u32 (ofL s.data.toList)) ∧ w = w' := by
  have hM : Hid (s.size ≤ maxLen) := hs
  clear hs
  go_enter Tryz.func86, Tryz.ntmps86
  go_wp2_with (go_at_call 116; refine (refAdd_any 0 (by decide) s hM.out _).mono ?_; rintro e w' ⟨rfl, rfl⟩)
  go_ret
  exact ⟨rfl, rfl⟩
theorem ofL_lt (l : List UInt8) : ofL l < 4294967296 := add_lt _ _
theorem whole_yes (s : ByteArray) (hs : s.size ≤ maxLen) (n : Nat) (hn : mask (ofL s.data.toList) = n) (w : World) :
    Calls Tryz.prog 133 #[.string s, .int .u32 n] w fun e w' => e = .returned (.bool true) ∧ Below w.heap.size w w' := by
  have hM : Hid (s.size ≤ maxLen) := hs
  clear hs
  subst hn
  go_enter Tryz.func133, Tryz.ntmps133
  go_wp2_with (first
    | (go_at_call 111; refine (of_any s hM.out _).mono ?_; rintro e w1 ⟨rfl, hb⟩)
    | (go_at_call 110; refine (mask_any _ (ofL_lt _) _).mono ?_; rintro e w2 ⟨rfl, rfl⟩))
  go_ret
  exact ⟨rfl, hb⟩
theorem whole_no (s : ByteArray) (hs : s.size ≤ maxLen) (n : Nat) (hn : ¬ mask (ofL s.data.toList) = n) (w : World) :
    Calls Tryz.prog 133 #[.string s, .int .u32 n] w fun e w' => e = .returned (.bool false) ∧ Below w.heap.size w w' := by
  have hM : Hid (s.size ≤ maxLen) := hs
  clear hs
  have hb1 : ((mask (ofL s.data.toList) : Int) == (n : Int)) = false := by simpa using fun e => hn (by omega)
  go_enter Tryz.func133, Tryz.ntmps133
  go_wp2_with (first
    | (go_at_call 111; refine (of_any s hM.out _).mono ?_; rintro e w1 ⟨rfl, hb⟩)
    | (go_at_call 110; refine (mask_any _ (ofL_lt _) _).mono ?_; rintro e w2 ⟨rfl, rfl⟩))
  go_ret
  exact ⟨rfl, hb⟩
attribute [irreducible] mask unmask r15 r17
end Go.Proofs.YtdkgieaanpfhcaaGreatDoor.Crc
