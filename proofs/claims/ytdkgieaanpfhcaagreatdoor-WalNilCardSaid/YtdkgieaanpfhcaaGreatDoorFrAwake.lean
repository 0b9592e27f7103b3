/-
  The example of the chapter of frames, walked. No condition.
-/
import Derived.Test.YtdkgieaanpfhcaaGreatDoorFrI
namespace Go.Proofs.YtdkgieaanpfhcaaGreatDoor
open Go.RowKit
open Vi

theorem hi_lay : lay 0 [104, 105] = little 4 (Crc.mask (Crc.ofL [1, 104, 105])) ++ [2, 0, 1, 104, 105] := by
  rw [lay, gap_zero, room_zero, layGo_last (by decide), pce]; rfl
theorem hi_len : (lay 0 [104, 105]).length = 9 := by rw [hi_lay]; simp [little_len]
theorem hi_drop : (lay 0 [104, 105]).drop 4 = [2, 0, 1, 104, 105] := by
  rw [hi_lay]; exact List.drop_left' (little_len 4 _)
theorem hi_recs : endOf (recs (lay 0 [104, 105]) 0) = 9 := by
  have h := rread_laid [] [104, 105] []
  simp at h
  rw [hi_len] at h
  have h2 := rread_end (lay 0 [104, 105])
  rw [hi_len] at h2
  rw [recs_some h, recs_none h2]; rfl
theorem hi_any (w : World) :
    Calls Tryz.prog 37 #[.int .i64 0, .string ⟨#[104, 105]⟩] w fun e w' => e = .returned (.string (bs (lay 0 [104, 105]))) ∧ Below w.heap.size w w' := flay_any 0 (by decide) (by decide) [104, 105] (by decide) w
theorem awake_go (H : List UInt8) (hl : H.length = 9) (hd : H.drop 4 = [2, 0, 1, 104, 105]) (HL : ∀ w, Calls Tryz.prog 37 #[.int .i64 0, .string ⟨#[104, 105]⟩] w fun e w' => e = .returned (.string (bs H)) ∧ Below w.heap.size w w')
    (HW : ∀ w, Calls Tryz.prog 93 #[.string (bs H)] w fun e w' => e = .returned (.int .i64 9) ∧ Below w.heap.size w w') (w : World) :
    Calls Tryz.prog 49 #[] w fun e w' => e = .returned (.bool true) ∧ Below w.heap.size w w' := by
  have HL := Lib.hid HL
  have HW := Lib.hid HW
  have hbz : (bs H).size = 9 := by rw [bs_size, hl]
  have hx : (bs H).extract 4 9 = ({ data := #[2, 0, 1, 104, 105] } : ByteArray) := by
    have := bs_drop H 4
    rw [hl, hd] at this
    exact this
  go_enter Tryz.func49, Tryz.ntmps49
  go_wp2_with (first
    | (go_at_call 37; (with_reducible refine (HL.out _).mono ?_); rintro e w1 ⟨rfl, hb1⟩)
    | (go_at_call 93; (with_reducible refine (HW.out _).mono ?_); rintro e w2 ⟨rfl, hb2⟩))
  go_ret
  exact ⟨rfl, hb1.trans (hb2.mono hb1.size)⟩
theorem awake_any (w : World) : Calls Tryz.prog 49 #[] w fun e w' => e = .returned (.bool true) ∧ Below w.heap.size w w' :=
  awake_go _ hi_len hi_drop hi_any (fun w => by
    have := whole_any (lay 0 [104, 105]) (by rw [hi_len]; decide) w
    rw [hi_recs] at this
    exact this) w
end Go.Proofs.YtdkgieaanpfhcaaGreatDoor
