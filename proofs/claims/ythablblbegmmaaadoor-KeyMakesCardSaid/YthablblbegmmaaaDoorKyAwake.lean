/-
  The chapter's example, walked: it holds. Conditions: as each theorem states.
-/
import Derived.Test.YthablblbegmmaaaDoorKyD
namespace Go.Proofs.YthablblbegmmaaaDoor
open Go.RowKit
open Vi

theorem less_nil (A : Option Addr) (c : Nat) (w : World) : Calls Tryd.prog 13 #[.slice none 0 0, .slice A 1 c] w fun e w' => e = .returned (.bool true) ∧ w = w' := by
  go_enter Tryd.func13, Tryd.ntmps13
  go_wp2
  go_loop [12] (fun i => i = .int .i64 0) (fun _ => 0)
  case atStart => rfl
  case round =>
    subst hrel
    go_wp2
    go_ret
    exact ⟨rfl, rfl⟩
theorem prow_one (w : World) (p : KPart) : PRow (w.alloc (.cells #[.int .u8 p.sort, .int .i64 p.n, .int .u64 p.u, .string p.s] 41)) (some ⟨w.heap.size, 0, none⟩) [p] := fun _ => by
  refine ⟨_, rfl, by simp, fun i hi => ?_⟩
  obtain rfl : i = 0 := by simp at hi; omega
  have h := heap_alloc_new w (.cells #[.int .u8 p.sort, .int .i64 p.n, .int .u64 p.u, .string p.s] 41)
  exact ⟨cell_in h 0 _ rfl, cell_in h 1 _ rfl, cell_in h 2 _ rfl, cell_in h 3 _ rfl⟩
theorem mkGo_one {p : KPart} (h : (pbytes p).2 = 0) (h2 : (pbytes p).1.length ≤ 200) : mkGo [] [p] = ((pbytes p).1, 0) := by
  rw [mkGo_on h (by simp; omega)]; simp [mkGo]
theorem make_one {w : World} (p : KPart) (hp : p.ok) (hs : p.s.size ≤ 9223372036854775807) (h0 : (pbytes p).2 = 0) (h2 : (pbytes p).1.length ≤ 200) (m : Int) (hm : w.cell? ⟨0, 0, none⟩ = some (.int .i64 m)) (c : Nat) :
    Calls Tryd.prog 6 #[.slice (some ⟨w.heap.size, 0, none⟩) 1 c] (w.alloc (.cells #[.int .u8 p.sort, .int .i64 p.n, .int .u64 p.u, .string p.s] 41)) fun e w' => e = .returned (.tuple #[.string (bs (pbytes p).1), .int .i64 0]) ∧ Below w.heap.size w w' := by
  have := make_any (some ⟨w.heap.size, 0, none⟩) c [p] (by simp) (prow_one w p) (by simp; exact ⟨hp, hs⟩) m (cell_alloc0 hm _)
  rw [mkGo_one h0 h2] at this
  exact this.mono fun e w' ⟨h1, hb⟩ => ⟨h1, ((Below.refl _ _).alloc (Nat.le_refl _) _).trans (hb.mono (by simp))⟩
theorem big8_up : (105 :: big8 (lift (-1)) : List UInt8) = [105, 127, 255, 255, 255, 255, 255, 255, 255] := by
  have e : lift (-1) = 9223372036854775807 := by unfold lift; decide
  rw [e]; unfold big8
  simp [little_succ, little_zero]
theorem awake_any (w : World) (m : Int) (hm : w.cell? ⟨0, 0, none⟩ = some (.int .i64 m)) : Calls Tryd.prog 4 #[] w fun e w' => e = .returned (.bool true) ∧ Below w.heap.size w w' := by
  have hmk : ∀ W : World, W.cell? ⟨0, 0, none⟩ = some (.int .i64 m) → Calls Tryd.prog 6 #[.slice (some ⟨W.heap.size, 0, none⟩) 1 1] (W.alloc (.cells #[.int .u8 105, .int .i64 (-1), .int .u64 0, .string ⟨#[]⟩] 41)) fun e w' => e = .returned (.tuple #[.string ⟨#[105, 127, 255, 255, 255, 255, 255, 255, 255]⟩, .int .i64 0]) ∧ Below W.heap.size W w' := fun W hW => by
    have hpb : pbytes (kUp (-1)) = ([105, 127, 255, 255, 255, 255, 255, 255, 255], 0) := by rw [pbytes_i rfl]; exact congrArg (·, 0) big8_up
    have := make_one (w := W) (kUp (-1)) ⟨by decide, by decide, by decide, by decide⟩ (by decide) (by rw [hpb]) (by rw [hpb]; decide) m hW 1
    rw [hpb] at this
    exact this
  have HMK := Lib.hid hmk
  have HM := Lib.hid hm
  clear hmk hm
  go_enter Tryd.func4, Tryd.ntmps4
  go_wp2_with (first
    | (go_at_call 15; refine (up_any _ _).mono ?_; rintro e w1 ⟨rfl, hb⟩; have HM1 := Lib.hid (cell0_below HM.out hb))
    | (go_at_call 6; refine (HMK.out _ HM1.out).mono ?_; rintro e w2 ⟨rfl, hb2⟩)
    | (go_at_call 13; refine (less_nil _ _ _).mono ?_; rintro e w' ⟨rfl, rfl⟩))
  go_ret
  have c1 := hb.trans (hb2.mono hb.size)
  exact ⟨rfl, c1.alloc c1.size _⟩
end Go.Proofs.YthablblbegmmaaaDoor
