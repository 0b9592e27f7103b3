/-
  The chapter's example, walked: it holds. Conditions: as each theorem states.
-/
import Derived.Test.YtelbhegkaihjhaaDoorKyD
namespace Go.Proofs.YtelbhegkaihjhaaDoor
open Go.RowKit
open Vi

theorem prow_one (w : World) (p : KPart) : PRow (w.alloc (.cells #[.int .u8 p.sort, .int .i64 p.n, .int .u64 p.u, .string p.s] 49)) (some ⟨w.heap.size, 0, none⟩) [p] := fun _ => by
  refine ⟨_, rfl, by simp, fun i hi => ?_⟩
  obtain rfl : i = 0 := by simp at hi; omega
  have h := heap_alloc_new w (.cells #[.int .u8 p.sort, .int .i64 p.n, .int .u64 p.u, .string p.s] 49)
  exact ⟨cell_in h 0 _ rfl, cell_in h 1 _ rfl, cell_in h 2 _ rfl, cell_in h 3 _ rfl⟩
theorem mkGo_one {p : KPart} (h : (pbytes p).2 = 0) (h2 : (pbytes p).1.length ≤ 200) : mkGo [] [p] = ((pbytes p).1, 0) := by
  rw [mkGo_on h (by simp; omega)]; simp [mkGo]
theorem make_one {w : World} (p : KPart) (hp : p.ok) (hs : p.s.size ≤ 9223372036854775807) (h0 : (pbytes p).2 = 0) (h2 : (pbytes p).1.length ≤ 200) (m : Int) (hm : w.cell? ⟨0, 0, none⟩ = some (.int .i64 m)) (c : Nat) :
    Calls Tryd.prog 28 #[.slice (some ⟨w.heap.size, 0, none⟩) 1 c] (w.alloc (.cells #[.int .u8 p.sort, .int .i64 p.n, .int .u64 p.u, .string p.s] 49)) fun e w' => e = .returned (.tuple #[.string (bs (pbytes p).1), .int .i64 0]) ∧ Below w.heap.size w w' := by
  have := make_any (some ⟨w.heap.size, 0, none⟩) c [p] (by simp) (prow_one w p) (by simp; exact ⟨hp, hs⟩) m (cell_alloc0 hm _)
  rw [mkGo_one h0 h2] at this
  exact this.mono fun e w' ⟨h1, hb⟩ => ⟨h1, ((Below.refl _ _).alloc (Nat.le_refl _) _).trans (hb.mono (by simp))⟩
theorem big8_up : (105 :: big8 (lift (-1)) : List UInt8) = [105, 127, 255, 255, 255, 255, 255, 255, 255] := by
  have e : lift (-1) = 9223372036854775807 := by unfold lift; decide
  rw [e]; unfold big8
  simp [little_succ, little_zero]
end Go.Proofs.YtelbhegkaihjhaaDoor
