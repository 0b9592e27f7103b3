/-
  An argument that is a row of numbers, opened; such rows in memory. Conditions: as each theorem states.
-/
import Derived.Test.YtfgahmkfhlbogaaLaw
import Derived.Deep.SlicePairs
namespace Go.Proofs.Ytfgahmkfhlbogaa
open Go.ChangeShapes Go.WideShapes Go.ChangeAt Go.RowKit
def rg (x : Int) : Prop := -9223372036854775808 ≤ x ∧ x ≤ 9223372036854775807

theorem i32_bd {a : Int} (w0 : (Lit.int .i32 a).wf = true) : -2147483648 ≤ a ∧ a ≤ 2147483647 := by
  simpa [Lit.wf, IntKind.min, IntKind.max, IntKind.signed, IntKind.bits] using w0
theorem u8_nat {a : Int} (w0 : (Lit.int .u8 a).wf = true) : ∃ n : Nat, a = n ∧ n < 256 := by
  have hx : 0 ≤ a ∧ a ≤ 255 := by simpa [Lit.wf, IntKind.min, IntKind.max, IntKind.signed, IntKind.bits] using w0
  exact ⟨a.toNat, by omega, by omega⟩
theorem block_add (a : Addr) (n : Nat) : (a.add n).block = a.block := by unfold Addr.add; split <;> rfl
theorem cell_lt {w : World} {p : Addr} {v : Value} (h : w.cell? p = some v) : p.block < w.heap.size := by
  rcases Nat.lt_or_ge p.block w.heap.size with h' | h'
  · exact h'
  · unfold World.cell? at h
    rw [Array.getElem?_eq_none h'] at h
    simp at h
theorem cellsI64 : Try.prog.cellsOf 2 = 1 := by kernel_rfl
def NRow (W : World) (ao : Option Addr) (l : List Int) : Prop := 0 < l.length → ∃ a, ao = some a ∧ a.block < W.heap.size ∧ ∀ i (hi : i < l.length), W.cell? (a.add i) = some (.int .i64 l[i])
theorem NRow.kept {W W' : World} {ao : Option Addr} {l : List Int} (h : NRow W ao l) {B : Nat} (hB : ∀ a, ao = some a → a.block < B) (hb : Below B W W') (hs : W.heap.size ≤ W'.heap.size) : NRow W' ao l := fun h0 => by
  obtain ⟨a, rfl, h1, h2⟩ := h h0
  exact ⟨a, rfl, by omega, fun i hi => (hb.cell (p := a.add i) (by rw [block_add]; exact hB a rfl)).trans (h2 i hi)⟩
theorem open_nums {H : Type} {enc : TypeId × Value → H} {W : World} {ao : Option Addr} {len cap fuel : Nat} {x : DataW H × List MemPlace}
    (h : DataW.trod enc Try.prog W 0 (fun _ => true) true fuel 24 [.slice ao len cap] = some x) :
    ∃ l : List Int, l.length = len ∧ NRow W ao l ∧ (len ≤ 9223372036854775807 ∧ (ao = none → len = 0 ∧ cap = 0)) ∧ ∀ p ∈ l, rg p := by
  rcases Go.Deep.open_slice Try.underlying24 h with ⟨hcs, _⟩ | ⟨a, n, c, m, nf, D, Pl, hcs, hb, hl, hm, hmm, hx, hcell⟩
  · simp at hcs
    obtain ⟨rfl, rfl, rfl⟩ := hcs
    exact ⟨[], rfl, fun h => by simp at h, ⟨by decide, fun _ => ⟨rfl, rfl⟩⟩, fun p hp => by cases hp⟩
  · simp at hcs
    obtain ⟨rfl, rfl, rfl⟩ := hcs
    have hm2 : m = cap := by simpa using hmm
    subst hm2
    unfold maxLen at hm
    have each : ∀ i, i < len → ∃ s : Int, W.cell? (a.add i) = some (.int .i64 s) ∧ rg s := fun i hi => by
      obtain ⟨cs', h1, h2⟩ := hcell i (by omega)
      rw [cellsI64, Nat.mul_one] at h1
      obtain ⟨s, rfl, _, hs⟩ := DataW.trod_int Try.underlying2 h2
      obtain ⟨_, hlen, hc⟩ := World.cells?_some h1
      have := hc 0 (by omega)
      rw [Go.Deep.add_add, Nat.add_zero] at this
      exact ⟨s, by simpa using this, i64_bd hs⟩
    obtain ⟨q, hq⟩ := Go.Deep.choose_lt (α := Int) each
    refine ⟨(List.range len).map q, by simp, fun h0 => ?_, ⟨by omega, fun h => by cases h⟩, fun p hp => ?_⟩
    · refine ⟨a, rfl, ?_, fun i hi => ?_⟩
      · have := cell_lt (hq 0 (by simpa using h0)).1
        rwa [block_add] at this
      · have hi' : i < len := by simpa using hi
        simp only [List.getElem_map, List.getElem_range]
        exact (hq i hi').1
    · obtain ⟨i, hi, rfl⟩ := List.mem_map.1 hp
      exact (hq i (List.mem_range.1 hi)).2
theorem NRow.below {W W2 : World} {ao : Option Addr} {l : List Int} (h : NRow W ao l) (hb : Below W.heap.size W W2) : NRow W2 ao l := fun h0 => by
  obtain ⟨a, rfl, h1, h2⟩ := h h0
  exact ⟨a, rfl, by have := hb.size; omega, fun i hi => (hb.cell (p := a.add i) (by rw [block_add]; exact h1)).trans (h2 i hi)⟩
theorem NRow.alloc {W : World} {ao : Option Addr} {l : List Int} (h : NRow W ao l) (o : Obj) : NRow (W.alloc o) ao l := h.below ((Below.refl _ W).alloc (Nat.le_refl _) o)
end Go.Proofs.Ytfgahmkfhlbogaa
