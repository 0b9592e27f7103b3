/-
  The Go text of whether a key may be there, walked. Conditions: as each theorem states.
-/
import Derived.Test.YtmgfgododhplpaaBlB
import Derived.Deep.QuietTactic
import Derived.BigQuiet
import Derived.Lib.Strings
namespace Go.Proofs.Ytmgfgododhplpaa.Bl
open Go.RowKit
open Crc (ret_int val_int)

theorem ret_bool {a b : Bool} (h : a = b) : Ending.returned (.bool a) = .returned (.bool b) := by rw [h]
theorem and_bit (c : UInt8) (p : Nat) : (bits .and .u8 (c.toNat : Int) ((bitN p : Nat) : Int) == 0) = !c.toNat.testBit (p % 8) := by
  rw [u8_and_nat _ _ c.toNat_lt (bitN_lt p)]
  have e : c.toNat &&& bitN p = if c.toNat.testBit (p % 8) then bitN p else 0 := by
    apply Nat.eq_of_testBit_eq
    intro i
    unfold bitN
    rw [Nat.testBit_and, Nat.testBit_two_pow]
    by_cases h : p % 8 = i
    · subst h
      cases c.toNat.testBit (p % 8) <;> simp [Nat.testBit_two_pow]
    · cases c.toNat.testBit (p % 8) <;> simp [Nat.testBit_two_pow, h]
  rw [e]
  cases c.toNat.testBit (p % 8)
  · simp
  · have : bitN p ≠ 0 := by unfold bitN; exact Nat.pos_iff_ne_zero.1 (Nat.pow_pos (by decide))
    simp [this]
theorem has_at (F : ByteArray) (p : Nat) (h : p / 8 < F.size) : has F.data.toList p = F[p / 8].toNat.testBit (p % 8) := by
  unfold has
  rw [List.getD_eq_getElem?_getD, List.getElem?_eq_getElem (by simpa using h)]; rfl
theorem index_pl0 (key : List UInt8) (bits : Nat) (w : World) : (Instr.index 30 (.agg (pcsOf key bits)) (.int .i64 ((0 : Nat) : Int))).run Try.prog w = .ok (.int .i64 ((plc key bits 0 : Nat) : Int)) w := by
  kernel_rfl
theorem index_pl1 (key : List UInt8) (bits : Nat) (w : World) : (Instr.index 30 (.agg (pcsOf key bits)) (.int .i64 ((1 : Nat) : Int))).run Try.prog w = .ok (.int .i64 ((plc key bits 1 : Nat) : Int)) w := by
  kernel_rfl
theorem index_pl2 (key : List UInt8) (bits : Nat) (w : World) : (Instr.index 30 (.agg (pcsOf key bits)) (.int .i64 ((2 : Nat) : Int))).run Try.prog w = .ok (.int .i64 ((plc key bits 2 : Nat) : Int)) w := by
  kernel_rfl
theorem index_pl3 (key : List UInt8) (bits : Nat) (w : World) : (Instr.index 30 (.agg (pcsOf key bits)) (.int .i64 ((3 : Nat) : Int))).run Try.prog w = .ok (.int .i64 ((plc key bits 3 : Nat) : Int)) w := by
  kernel_rfl
theorem index_pl4 (key : List UInt8) (bits : Nat) (w : World) : (Instr.index 30 (.agg (pcsOf key bits)) (.int .i64 ((4 : Nat) : Int))).run Try.prog w = .ok (.int .i64 ((plc key bits 4 : Nat) : Int)) w := by
  kernel_rfl
theorem index_pl5 (key : List UInt8) (bits : Nat) (w : World) : (Instr.index 30 (.agg (pcsOf key bits)) (.int .i64 ((5 : Nat) : Int))).run Try.prog w = .ok (.int .i64 ((plc key bits 5 : Nat) : Int)) w := by
  kernel_rfl
theorem index_pl (key : List UInt8) (bits k : Nat) (w : World) (hk : k < 6) : (Instr.index 30 (.agg (pcsOf key bits)) (.int .i64 ((k : Nat) : Int))).run Try.prog w = .ok (.int .i64 ((plc key bits k : Nat) : Int)) w := by
  match k, hk with
  | 0, _ => exact index_pl0 key bits w
  | 1, _ => exact index_pl1 key bits w
  | 2, _ => exact index_pl2 key bits w
  | 3, _ => exact index_pl3 key bits w
  | 4, _ => exact index_pl4 key bits w
  | 5, _ => exact index_pl5 key bits w
theorem quiet_eq {P : Program} {f : FuncId} {args : Array Value} {w : World} {n : Nat} {v : Value}
    (h : Calls P f args (w.drewN n) fun e w' => e = .returned v ∧ w.drewN n = w') : Calls P f args (w.drewN n) fun e w'' => e = .returned v ∧ ∃ m, w'' = w.drewN m :=
  h.mono fun _ _ ⟨he, hm⟩ => ⟨he, n, hm.symm⟩
theorem below_drewN {B : Nat} {a w : World} (h : Below B a w) : ∀ n, Below B a (w.drewN n)
  | 0 => h
  | n + 1 => (below_drewN h n).drew
def mayK (F key : List UInt8) (k : Nat) : Prop := ∀ i, i < k → has F (plc key (F.length * 8) i) = true
theorem may_yes {F key : List UInt8} (h : mayK F key 6) : may F key = true := by
  rw [may]
  simp [plcs, h 0 (by decide), h 1 (by decide), h 2 (by decide), h 3 (by decide), h 4 (by decide), h 5 (by decide)]
theorem may_no {F key : List UInt8} (h0 : 0 < F.length) (k : Nat) (hk : k < 6) (h : has F (plc key (F.length * 8) k) = false) : may F key = false := by
  rw [may]
  have : F.isEmpty = false := by cases F with
    | nil => simp at h0
    | cons => rfl
  rw [this, Bool.false_or]
  match k, hk, h with
  | 0, _, h => simp [plcs, h]
  | 1, _, h => simp [plcs, h]
  | 2, _, h => simp [plcs, h]
  | 3, _, h => simp [plcs, h]
  | 4, _, h => simp [plcs, h]
  | 5, _, h => simp [plcs, h]
set_option maxRecDepth 100000 in
set_option maxHeartbeats 1000000 in
theorem may_go (F : ByteArray) (hF : F.size ≤ 1000000) (h0 : 0 < F.size) (key : ByteArray) (pc : Array Value) (P : Nat → Nat)
    (HP : ∀ w, Calls Try.prog 13 #[.string key, .int .i64 ((F.size : Int) * 8)] w fun e w' => e = .returned (.agg pc) ∧ Below w.heap.size w w')
    (hI : ∀ k w, k < 6 → (Instr.index 30 (.agg pc) (.int .i64 ((k : Nat) : Int))).run Try.prog w = .ok (.int .i64 ((P k : Nat) : Int)) w) (hP : ∀ k, P k < F.size * 8)
    (r : Bool) (hno : ∀ k, k < 6 → has F.data.toList (P k) = false → r = false) (hyes : (∀ k, k < 6 → has F.data.toList (P k) = true) → r = true) (w : World) :
    Calls Try.prog 15 #[.string F, .string key] w fun e w' => e = .returned (.bool r) ∧ Below w.heap.size w w' := by
  have HP := Lib.hid HP
  have HI := Lib.hid hI
  have HPP := Lib.hid hP
  have HN := Lib.hid hno
  have HY := Lib.hid hyes
  clear hI hP hno hyes
  have hne : F.toList.isEmpty = false := by
    rw [Lib.toList_data]
    have : F.data.toList.length = F.size := by simp
    cases e : F.data.toList with
    | nil => rw [e] at this; simp at this; omega
    | cons => rfl
  go_enter Try.func15, Try.ntmps15
  go_wp2_with (first
    | (go_at_call 13; (with_reducible refine (HP.out _).mono ?_); rintro e w1 ⟨rfl, hb1⟩; have HB1 := Lib.hid hb1; clear hb1))
  have hb1 := HB1.out
  clear HB1
  go_loopw [14] (fun i wr => ∃ k : Nat, k ≤ 6 ∧ i = .int .i64 k ∧ Below w.heap.size w wr ∧ ∀ j, j < k → has F.data.toList (P j) = true) (fun i _ => 6 - (intOf i).toNat)
  case atStart => exact ⟨0, by omega, rfl, hb1, fun j hj => by omega⟩
  case round =>
    obtain ⟨k, hk, rfl, hbw, hall⟩ := hrel
    have HALL := Lib.hid hall
    clear hall
    by_cases h6 : k < 6
    · have hidx := fun w => HI.out k w h6
      have hpk := HPP.out k
      have hN := Lib.hid (HN.out k h6)
      have hlast : Hid (has F.data.toList (P k) = true → ∀ j, j < k + 1 → has F.data.toList (P j) = true) := fun h j hj => by
        by_cases e : j = k
        · rw [e]; exact h
        · exact HALL.out j (by omega)
      generalize P k = p at *
      obtain ⟨q, hq2, hq, hat0⟩ : ∃ q : Nat, (p : Int) / 8 = (q : Int) ∧ ∃ hq : q < F.size, has F.data.toList p = F[q].toNat.testBit (p % 8) := ⟨p / 8, by omega, by omega, has_at F p (by omega)⟩
      have hat := Lib.hid hat0
      have hand := and_bit F[q] p
      have HP9 : Hid (p ≤ 9000000000000000000) := by unfold Hid; omega
      clear hat0
      cases hh : has F.data.toList p with
      | false =>
        have hr := Lib.hid (hN.out hh)
        rw [hat.out] at hh
        rw [hh] at hand
        have hand2 : (bits .and .u8 (F[q].toNat : Int) ((bitN p : Nat) : Int) == 0) = true := hand
        clear hh hand
        go_wp2
        go_quiet ((go_at_call 17; exact quiet_eq (bit_any _ HP9.out _)))
        go_wp2
        go_ret
        exact ⟨ret_bool hr.out.symm, below_drewN hbw _⟩
      | true =>
        have hl := Lib.hid (hlast.out hh)
        rw [hat.out] at hh
        rw [hh] at hand
        have hand2 : (bits .and .u8 (F[q].toNat : Int) ((bitN p : Nat) : Int) == 0) = false := hand
        clear hh hand
        go_wp2
        go_quiet ((go_at_call 17; exact quiet_eq (bit_any _ HP9.out _)))
        go_wp2
        go_roundw
        case rel => exact ⟨k + 1, by omega, by go_num, below_drewN hbw _, hl.out⟩
        case measure => simp [intOf]; omega
    · go_wp2
      go_ret
      exact ⟨ret_bool (HY.out (fun j hj => HALL.out j (by omega))).symm, hbw⟩
theorem may_any (F key : ByteArray) (hF : F.size ≤ 1000000) (h0 : 0 < F.size) (hk : key.size ≤ maxLen) (w : World) :
    Calls Try.prog 15 #[.string F, .string key] w fun e w' => e = .returned (.bool (may F.data.toList key.data.toList)) ∧ Below w.heap.size w w' := by
  have hl : F.data.toList.length = F.size := by simp
  refine may_go F hF h0 key (pcsOf key.data.toList (F.size * 8)) (plc key.data.toList (F.size * 8)) (fun w => ?_) (fun k w hk => index_pl _ _ k w hk) (fun k => plc_lt _ (by omega) k) _ (fun k hk h => ?_) (fun h => ?_) w
  · have := places_any key hk (F.size * 8) (by omega) (by omega) w
    rw [show ((F.size * 8 : Nat) : Int) = (F.size : Int) * 8 by omega] at this
    exact this
  · exact may_no (by omega) k hk (by rw [hl]; exact h)
  · exact may_yes (fun i hi => by rw [hl]; exact h i hi)
theorem may_empty (key : ByteArray) (w : World) :
    Calls Try.prog 15 #[.string ⟨#[]⟩, .string key] w fun e w' => e = .returned (.bool true) ∧ w = w' := by
  go_enter Try.func15, Try.ntmps15
  go_wp2
  go_ret
  exact ⟨rfl, rfl⟩
end Go.Proofs.Ytmgfgododhplpaa.Bl
