/-
  The chapter's examples, walked: they hold. No condition.
-/
import Derived.Test.YtgpifihghklgfaaViG
import Derived.Test.YtgpifihghklgfaaLaw
namespace Go.Proofs.Ytgpifihghklgfaa
open Go.RowKit
open Vi

theorem below_grown {B : Nat} {w w1 w2 : World} {a : Nat} (h : Below B w w1) (hg : w1.grownBy w2 (some a)) (hB : B ≤ w1.heap.size) (ha : B ≤ a) : Below B w w2 :=
  h.grown hg hB (fun k hk => by injection hk with e; omega)
theorem below_drewN {B : Nat} {a w : World} (h : Below B a w) (n : Nat) : Below B a (w.drewN n) := ⟨h.os, h.tape, h.output, h.size, h.block⟩
theorem vnum300 : vnum 300 = [172, 2] := by rw [vnum_big (by decide), vnum_small (by decide)]; rfl
theorem vnum1 : vnum (zig (-1)) = [1] := by
  rw [show zig (-1) = 1 by unfold zig; decide, vnum_small (by decide)]; rfl
theorem dNum300 : dNum [172, 2] 0 0 = (300, 2, 0) := by
  have h := rnum_vnum (m := 300) (by decide) []
  rw [List.append_nil, vnum300] at h
  rw [dNum_ok, List.drop_zero, h]; rfl
theorem awake_any (w : World) : Calls Try.prog 8 #[] w fun e w' => e = .returned (.bool true) ∧ Below w.heap.size w w' := by
  have hN : Hid (∀ W : World, Calls Try.prog 9 #[.int .u64 300] W fun e w' => e = .returned (.string ⟨#[172, 2]⟩) ∧ Below W.heap.size W w') := fun W => by
    have := num_any 300 (by decide) W
    rw [vnum300] at this
    exact this
  have hS : Hid (∀ W : World, Calls Try.prog 11 #[.int .i64 (-1)] W fun e w' => e = .returned (.string ⟨#[1]⟩) ∧ Below W.heap.size W w') := fun W => by
    have := signed_any (-1) (by decide) (by decide) W
    rw [vnum1] at this
    exact this
  have hR : Hid (∀ (W : World) (a : Nat), RdAt 56 W a ⟨#[172, 2]⟩ 0 0 → Calls Try.prog 33 #[.pointer (some ⟨a, 0, none⟩)] W (RdPost 56 W a ⟨#[172, 2]⟩ (.int .u64 300) (2, 0))) := fun W a h => by
    have := rnum_any h (by decide) (by decide)
    rw [show (ByteArray.mk #[172, 2]).data.toList = [172, 2] from rfl, dNum300] at this
    exact this
  have hE : Hid (∀ (W : World) (a : Nat), RdAt 56 W a ⟨#[172, 2]⟩ 2 0 → Calls Try.prog 31 #[.pointer (some ⟨a, 0, none⟩)] W fun e w' => e = .returned (.int .i64 0) ∧ ∃ k, w' = W.drewN k) := fun W a h => by
    have := end_any h (by decide) (by decide)
    rw [show dEnd (ByteArray.mk #[172, 2]).size 2 0 = 0 by unfold dEnd; rfl] at this
    exact this
  go_enter Try.func8, Try.ntmps8
  go_wp2_with (first
    | (go_at_call 19; refine (over_any _ _).mono ?_; rintro e w1 ⟨rfl, h1, b1⟩; have H1 := Lib.hid h1; clear h1)
    | (go_at_call 9; refine (hN.out _).mono ?_; rintro e w2 ⟨rfl, b2⟩; have H2 := Lib.hid (rd_kept H1.out (grown_below b2 none) (by simp)))
    | (go_at_call 11; refine (hS.out _).mono ?_; rintro e w3 ⟨rfl, b3⟩; have H3 := Lib.hid (rd_kept H2.out (grown_below b3 none) (by simp)))
    | (go_at_call 33; refine (hR.out _ _ H3.out).mono ?_; rintro e w4 ⟨rfl, h4, g4⟩; have H4 := Lib.hid h4; clear h4)
    | (go_at_call 31; refine (hE.out _ _ H4.out).mono ?_; rintro e w5 ⟨rfl, k, rfl⟩))
  go_ret
  have c1 := b1.trans (b2.mono b1.size)
  have c2 := c1.trans (b3.mono c1.size)
  exact ⟨rfl, below_drewN (below_grown c2 g4 c2.size (Nat.le_refl _)) k⟩
end Go.Proofs.Ytgpifihghklgfaa
