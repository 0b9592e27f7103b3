/-
  The law's text that keeps of a part what its sort uses, walked. Conditions: as each theorem states.
-/
import Derived.Test.YtelbhegkaihjhaaDoorKyL
namespace Go.Proofs.YtelbhegkaihjhaaDoor
open Go.RowKit
open Vi

def PlJ (w : World) (l : List KPart) (v i : Value) (wr : World) : Prop :=
  ∃ j : Nat, j ≤ l.length ∧ i = .int .i64 j ∧ wr.ownsRow w.heap.size 49 4 v j (((l.take j).map pplain).flatMap KPart.cells) ∧ Below w.heap.size w wr
theorem news_third (wr : World) (o1 o2 : Obj) (q : KPart) : ∀ j u, q.cells[j]? = some u → (((wr.alloc o1).alloc o2).alloc (.cells #[.int .u8 q.sort, .int .i64 q.n, .int .u64 q.u, .string q.s] 49)).cell? ((⟨wr.heap.size + 1 + 1, 0, none⟩ : Addr).add j) = some u := by
  have hn := heap_alloc_new ((wr.alloc o1).alloc o2) (.cells #[.int .u8 q.sort, .int .i64 q.n, .int .u64 q.u, .string q.s] 49)
  have hA : ((wr.alloc o1).alloc o2).heap.size = wr.heap.size + 1 + 1 := by simp
  rw [hA] at hn
  exact World.news_of_block hn
theorem cells_one (q : KPart) : ∀ u ∈ q.cells, u.oneCell' = true := by
  intro x hx; simp [KPart.cells] at hx; rcases hx with rfl | rfl | rfl | rfl <;> rfl
end Go.Proofs.YtelbhegkaihjhaaDoor
