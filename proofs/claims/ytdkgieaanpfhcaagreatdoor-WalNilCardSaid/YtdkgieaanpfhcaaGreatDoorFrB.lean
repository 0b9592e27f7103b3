/-
  The Go text that lays records, walked: where the next piece stands, its kind, a piece. Conditions: as each theorem states.
-/
import Derived.Test.YtdkgieaanpfhcaaGreatDoorFrMath
import Derived.Test.YtdkgieaanpfhcaaGreatDoorBu
import Derived.BigRegion
namespace Go.Proofs.YtdkgieaanpfhcaaGreatDoor
open Go.RowKit
open Vi

theorem ret_two {a b c d : Int} (h1 : a = c) (h2 : b = d) : Ending.returned (.tuple #[.int .i64 a, .int .i64 b]) = .returned (.tuple #[.int .i64 c, .int .i64 d]) := by rw [h1, h2]
theorem next_nat (a : Nat) (ha : a ≤ 9223372036854775807) (w : World) :
    Calls Tryz.prog 77 #[.int .i64 a] w fun e w' => e = .returned (.tuple #[.int .i64 (gapOf a), .int .i64 (roomOf a)]) ∧ w = w' := by
  have hm : max (a : Int) 0 = a := by omega
  by_cases h : 512 - a % 512 < 7
  · have e1 := gap_few h
    have e2 := room_few h
    rw [e1, e2]
    go_enter Tryz.func77, Tryz.ntmps77
    go_wp2
    go_ret2
    exact ⟨ret_two (by omega) (by omega), rfl⟩
  · have e1 := gap_many h
    have e2 := room_many h
    rw [e1, e2]
    go_enter Tryz.func77, Tryz.ntmps77
    go_wp2
    go_ret2
    exact ⟨ret_two (by omega) (by omega), rfl⟩
theorem next_neg (x : Int) (hl : -9223372036854775808 ≤ x) (hx : x < 0) (w : World) :
    Calls Tryz.prog 77 #[.int .i64 x] w fun e w' => e = .returned (.tuple #[.int .i64 (gapOf 0), .int .i64 (roomOf 0)]) ∧ w = w' := by
  have e1 := gap_zero
  have e2 := room_zero
  rw [e1, e2]
  go_enter Tryz.func77, Tryz.ntmps77
  go_wp2
  go_ret2
  exact ⟨ret_two (by omega) (by omega), rfl⟩
theorem next_any (x : Int) (hl : -9223372036854775808 ≤ x) (hh : x ≤ 9223372036854775807) (w : World) :
    Calls Tryz.prog 77 #[.int .i64 x] w fun e w' => e = .returned (.tuple #[.int .i64 (gapOf x.toNat), .int .i64 (roomOf x.toNat)]) ∧ w = w' := by
  by_cases h : x < 0
  · rw [show x.toNat = 0 by omega]; exact next_neg x hl h w
  · have := next_nat x.toNat (by omega) w
    rw [show ((x.toNat : Nat) : Int) = x by omega] at this
    exact this
theorem kind_any (b e : Bool) (w : World) :
    Calls Tryz.prog 79 #[.bool b, .bool e] w fun r w' => r = .returned (.int .u8 (kindOf b e)) ∧ w = w' := by
  cases b <;> cases e
  all_goals
    go_enter Tryz.func79, Tryz.ntmps79
    go_wp2
    go_ret
    exact ⟨rfl, rfl⟩
theorem two_bytes (W : World) (g : Nat) (hg : g = W.heap.size) (c d : Int) : (convert 88 9 (.slice (some ⟨g, 0, none⟩) 2 2)).run Tryz.prog (W.alloc (.cells #[.int .u8 c, .int .u8 d] 5)) =
    .ok (.string (bs [UInt8.ofNat c.toNat, UInt8.ofNat d.toNat])) (W.alloc (.cells #[.int .u8 c, .int .u8 d] 5)) := by
  subst hg
  rw [run_convert_bytes_string _ _ _ 5 _ _ _ Tryz.underlying88 Tryz.underlying5 Tryz.underlying9]
  have hl := run_loadCells_list (P := Tryz.prog) (W.alloc (.cells #[.int .u8 c, .int .u8 d] 5)) ⟨W.heap.size, 0, none⟩ ([c, d].map (Value.int .u8)) (fun j v hj => by
    match j, hj with
    | 0, hj => simp at hj; subst hj; simp [Addr.add]
    | 1, hj => simp at hj; subst hj; simp [Addr.add])
  rw [run_bytesToString _ _ 2 2 [c, d] hl]
  rfl
theorem summed_len (k : Nat) (s : List UInt8) (hs : s.length ≤ 65535) : (bs (UInt8.ofNat k :: s)).size ≤ maxLen := by
  rw [bs_size]; unfold maxLen; simp; omega
theorem of_bs (l : List UInt8) (hs : (bs l).size ≤ maxLen) (w : World) :
    Calls Tryz.prog 111 #[.string (bs l)] w fun e w' => e = .returned (.int .u32 (Crc.ofL l)) ∧ Below w.heap.size w w' := Crc.of_any (bs l) hs w
theorem piece_any (k : Nat) (hk : k < 256) (s : List UInt8) (hs : s.length ≤ 65535) (w : World) :
    Calls Tryz.prog 78 #[.int .u8 k, .string (bs s)] w fun e w' => e = .returned (.string (bs (pce k s))) ∧ Below w.heap.size w w' := by
  have hbz := bs_size
  have hba := bs_append
  have hob := one_byte
  have htb := two_bytes
  have hll := little_len
  have hms := Lib.hid (summed_len k s hs)
  go_enter Tryz.func78, Tryz.ntmps78
  go_wp2_with (first
    | (go_at_call 111; refine (of_bs _ hms.out _).mono ?_; rintro e w1 ⟨rfl, hb⟩)
    | (go_at_call 110; refine (Crc.mask_any _ (Crc.ofL_lt _) _).mono ?_; rintro e w2 ⟨rfl, rfl⟩)
    | (go_at_call 109; refine (fixed_any _ (Crc.mask_lt _) _).mono ?_; rintro e w3 ⟨rfl, hb2⟩))
  go_ret
  refine ⟨ret_str ?_, (((Below.refl _ _).alloc (Nat.le_refl _) _).alloc (by simp) _).trans ((hb.mono (by simp; omega)).trans (hb2.mono ?_))⟩
  · unfold pce
    rw [Nat.mod_eq_of_lt (a := s.length / 256) (by omega)]
  · have := hb.size
    simp at this; omega
end Go.Proofs.YtdkgieaanpfhcaaGreatDoor
