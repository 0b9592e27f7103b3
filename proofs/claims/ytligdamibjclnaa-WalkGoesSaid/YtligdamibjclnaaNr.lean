/-
  An argument that is a row of numbers, opened; such rows in memory. Conditions: as each theorem states.
-/
import Derived.Test.YtligdamibjclnaaLaw
import Derived.Deep.SlicePairs
namespace Go.Proofs.Ytligdamibjclnaa
open Go.ChangeShapes Go.WideShapes Go.ChangeAt Go.RowKit
def rg (x : Int) : Prop := -9223372036854775808 ≤ x ∧ x ≤ 9223372036854775807

theorem i32_bd {a : Int} (w0 : (Lit.int .i32 a).wf = true) : -2147483648 ≤ a ∧ a ≤ 2147483647 := by
  simpa [Lit.wf, IntKind.min, IntKind.max, IntKind.signed, IntKind.bits] using w0
theorem u8_nat {a : Int} (w0 : (Lit.int .u8 a).wf = true) : ∃ n : Nat, a = n ∧ n < 256 := by
  have hx : 0 ≤ a ∧ a ≤ 255 := by simpa [Lit.wf, IntKind.min, IntKind.max, IntKind.signed, IntKind.bits] using w0
  exact ⟨a.toNat, by omega, by omega⟩
theorem block_add (a : Addr) (n : Nat) : (a.add n).block = a.block := by unfold Addr.add; split <;> rfl
theorem cell_lt {w : World} {p : Addr} {v : Value} (h : w.cell? p = some v) : p.block < w.heap.size := by
  rcases Nat.lt_or_ge p.block w.heap.size with h' | h'
  · exact h'
  · unfold World.cell? at h
    rw [Array.getElem?_eq_none h'] at h
    simp at h
theorem cellsI64 : Try.prog.cellsOf 2 = 1 := by kernel_rfl
def NRow (W : World) (ao : Option Addr) (l : List Int) : Prop := 0 < l.length → ∃ a, ao = some a ∧ a.block < W.heap.size ∧ ∀ i (hi : i < l.length), W.cell? (a.add i) = some (.int .i64 l[i])
theorem NRow.kept {W W' : World} {ao : Option Addr} {l : List Int} (h : NRow W ao l) {B : Nat} (hB : ∀ a, ao = some a → a.block < B) (hb : Below B W W') (hs : W.heap.size ≤ W'.heap.size) : NRow W' ao l := fun h0 => by
  obtain ⟨a, rfl, h1, h2⟩ := h h0
  exact ⟨a, rfl, by omega, fun i hi => (hb.cell (p := a.add i) (by rw [block_add]; exact hB a rfl)).trans (h2 i hi)⟩
theorem NRow.below {W W2 : World} {ao : Option Addr} {l : List Int} (h : NRow W ao l) (hb : Below W.heap.size W W2) : NRow W2 ao l := fun h0 => by
  obtain ⟨a, rfl, h1, h2⟩ := h h0
  exact ⟨a, rfl, by have := hb.size; omega, fun i hi => (hb.cell (p := a.add i) (by rw [block_add]; exact h1)).trans (h2 i hi)⟩
theorem NRow.alloc {W : World} {ao : Option Addr} {l : List Int} (h : NRow W ao l) (o : Obj) : NRow (W.alloc o) ao l := h.below ((Below.refl _ W).alloc (Nat.le_refl _) o)
end Go.Proofs.Ytligdamibjclnaa
