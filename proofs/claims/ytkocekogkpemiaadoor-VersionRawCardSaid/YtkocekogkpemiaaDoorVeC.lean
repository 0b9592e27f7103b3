/-
  The Go text of versions, walked: mayCome, Count. Conditions: as each theorem states.
-/
import Derived.Test.YtkocekogkpemiaaDoorVeB
namespace Go.Proofs.YtkocekogkpemiaaDoor.Ve
open Go.RowKit
open Go.Proofs.YtkocekogkpemiaaDoor
open Vi Ba Ed

theorem idx0 (x0 x1 x2 x3 : Value) (W : World) : (Instr.index 24 (.agg #[x0, x1, x2, x3]) (.int .i64 0)).run Tryd.prog W = .ok x0 W := by kernel_rfl
theorem idx1 (x0 x1 x2 x3 : Value) (W : World) : (Instr.index 24 (.agg #[x0, x1, x2, x3]) (.int .i64 1)).run Tryd.prog W = .ok x1 W := by kernel_rfl
theorem idx2 (x0 x1 x2 x3 : Value) (W : World) : (Instr.index 24 (.agg #[x0, x1, x2, x3]) (.int .i64 2)).run Tryd.prog W = .ok x2 W := by kernel_rfl
theorem idx3 (x0 x1 x2 x3 : Value) (W : World) : (Instr.index 24 (.agg #[x0, x1, x2, x3]) (.int .i64 3)).run Tryd.prog W = .ok x3 W := by kernel_rfl
theorem idx_any (L : Nat → List Fil) (A : Nat → Option Addr) (C : Nat → Nat) {k : Nat} (hk : k < 4) (W : World) :
    (Instr.index 24 (.agg #[.slice (A 0) (L 0).length (C 0), .slice (A 1) (L 1).length (C 1), .slice (A 2) (L 2).length (C 2), .slice (A 3) (L 3).length (C 3)]) (.int .i64 (k : Int))).run Tryd.prog W = .ok (.slice (A k) (L k).length (C k)) W := by
  rcases (by omega : k = 0 ∨ k = 1 ∨ k = 2 ∨ k = 3) with rfl | rfl | rfl | rfl
  · exact idx0 _ _ _ _ W
  · exact idx1 _ _ _ _ W
  · exact idx2 _ _ _ _ W
  · exact idx3 _ _ _ _ W
theorem nums_le {L : Nat → List Fil} (hL : ∀ i, i < 4 → (L i).length ≤ 100000) : ∀ k, k ≤ 4 → (nums L k).length ≤ k * 100000
  | 0, _ => by simp [nums]
  | k + 1, h => by
    have := nums_le hL k (by omega)
    have := hL k (by omega)
    rw [nums_len]
    omega
def CoRel (w : World) (o : Obj) (L : Nat → List Fil) (n i : Value) (wr : World) : Prop := ∃ k : Nat, k ≤ 4 ∧ i = .int .i64 (k : Nat) ∧ n = .int .i64 ((nums L k).length : Nat) ∧ wr = w.alloc o
set_option maxRecDepth 100000 in
theorem count_any (L : Nat → List Fil) (A : Nat → Option Addr) (C : Nat → Nat) (hL : ∀ i, i < 4 → (L i).length ≤ 100000) (w : World) :
    Calls Tryd.prog 10 #[vval L A C] w (QPost w (.int .i64 ((nums L 4).length : Nat))) := by
  have hnl := Lib.hid fun k hk => nums_le hL k hk
  have HL := Lib.hid hL
  clear hL
  unfold vval
  go_enter Tryd.func10, Tryd.ntmps10
  go_wp2
  go_loopw [3, 8] (CoRel w (.cells #[.slice (A 0) (L 0).length (C 0), .slice (A 1) (L 1).length (C 1), .slice (A 2) (L 2).length (C 2), .slice (A 3) (L 3).length (C 3)] 26 (0, 0)) L) (fun _ i _ => 4 - (intOf i).toNat)
  case atStart => exact ⟨0, by omega, rfl, rfl, rfl⟩
  case round =>
    obtain ⟨k, hk, rfl, rfl, rfl⟩ := hrel
    by_cases hlt : k < 4
    · have hi := idx_any L A C hlt
      have h1 := hnl.out k hk
      have h2 := HL.out k hlt
      have hlen := nums_len L k
      go_wp2
      go_roundw
      case rel => exact ⟨k + 1, by omega, by go_num, by rw [hlen]; go_num, rfl⟩
      case measure => simp [intOf]; omega
    · have hk4 : k = 4 := by omega
      subst hk4
      go_wp2
      go_ret
      exact ⟨rfl, (Below.refl _ _).alloc (Nat.le_refl _) _⟩
theorem add0 (n : Nat) : (⟨n, 0, none⟩ : Addr).add 0 = ⟨n, 0, none⟩ := rfl
theorem at_cells (w : World) (x : Fil) : ARow (w.alloc (.cells #[.int .i64 x.level, .int .u64 x.number, .int .u64 x.size, .int .u64 x.count, .string x.least, .string x.most] 45)) (some ⟨w.heap.size, 0, none⟩) [x] := fun _ => by
  refine ⟨_, rfl, by simp, fun i hi => ?_⟩
  have : i = 0 := by simpa using hi
  subst this
  have h := heap_alloc_new w (.cells #[.int .i64 x.level, .int .u64 x.number, .int .u64 x.size, .int .u64 x.count, .string x.least, .string x.most] 45)
  exact ⟨cell_in h 0 _ rfl, cell_in h 1 _ rfl, cell_in h 2 _ rfl, cell_in h 3 _ rfl, cell_in h 4 _ rfl, cell_in h 5 _ rfl⟩
theorem come_any (i : Nat) (hi : i < 4) (x : Fil) (ho : x.ok) (w : World) :
    Calls Tryd.prog 12 #[.int .i64 i, fval x] w (QPost w (.bool (decide (chkA (atl i x) = 0)))) := by
  have hok := atl_ok ho hi
  have HC : Hid (∀ (W : World) (b : Nat), W.heap.size = b → Calls Tryd.prog 20 #[.agg #[.int .u64 0, .int .u64 0, .int .u64 0, .slice (some ⟨b, 0, none⟩) 1 1, .slice none 0 0]] (W.alloc (.cells #[.int .i64 i, .int .u64 x.number, .int .u64 x.size, .int .u64 x.count, .string x.least, .string x.most] 45)) (QPost (W.alloc (.cells #[.int .i64 i, .int .u64 x.number, .int .u64 x.size, .int .u64 x.count, .string x.least, .string x.most] 45)) (.int .i64 (chkA (atl i x))))) := fun W b hb => by
    subst hb
    have := checkE_any (e := ⟨0, 0, 0, [atl i x], []⟩) 1 0 (w := W.alloc (.cells #[.int .i64 i, .int .u64 x.number, .int .u64 x.size, .int .u64 x.count, .string x.least, .string x.most] 45)) (A := some ⟨W.heap.size, 0, none⟩) (G := none)
      ⟨at_cells W (atl i x), grow_nil _ _, ⟨by show (0 : Nat) < _; omega, by show (0 : Nat) < _; omega, by show (0 : Nat) < _; omega, fun a ha => by rw [List.mem_singleton] at ha; subst ha; exact hok, fun g hg => by cases hg⟩, by simp, by simp⟩
    rw [chkE_one] at this
    exact this
  have e : (chkA (atl i x) == 0) = decide (chkA (atl i x) = 0) := by by_cases h : chkA (atl i x) = 0 <;> simp [h]
  rw [← e]
  clear e
  generalize chkA (atl i x) = z at *
  clear hok ho
  unfold fval
  go_enter Tryd.func12, Tryd.ntmps12
  go_wp2_with (go_at_call 20; (with_reducible refine (HC.out _ _ (by simp)).mono ?_); rintro e w2 ⟨rfl, hb2⟩; have B2 := Lib.hid hb2; clear hb2)
  go_ret
  exact ⟨rfl, two_then B2.out⟩
end Go.Proofs.YtkocekogkpemiaaDoor.Ve
