/-
  The laws' scripts: their arguments opened, Light, and rows held against one another. Conditions: as each theorem states.
-/
import Derived.Test.YtadejeoiffaimaaDoorSkM
import Derived.Test.YtadejeoiffaimaaDoorLaw
import Derived.Deep.SlicePairs
namespace Go.Proofs.YtadejeoiffaimaaDoor.Sk
open Go.ChangeShapes Go.WideShapes Go.ChangeAt Go.RowKit
open Go.Proofs.YtadejeoiffaimaaDoor

structure Ac where
  key : ByteArray
  value : ByteArray
  height : Int
instance : Inhabited Ac := ⟨⟨⟨#[]⟩, ⟨#[]⟩, 0⟩⟩
theorem block_add (a : Addr) (n : Nat) : (a.add n).block = a.block := by unfold Addr.add; split <;> rfl
theorem cell_lt {w : World} {p : Addr} {v : Value} (h : w.cell? p = some v) : p.block < w.heap.size := by
  rcases Nat.lt_or_ge p.block w.heap.size with h' | h'
  · exact h'
  · unfold World.cell? at h
    rw [Array.getElem?_eq_none h'] at h
    simp at h
def ACells (W : World) (q : Addr) (p : Ac) : Prop := W.cell? q = some (.string p.key) ∧ W.cell? ⟨q.block, q.off + 1, none⟩ = some (.string p.value) ∧ W.cell? ⟨q.block, q.off + 2, none⟩ = some (.int .i64 p.height)
def ARow (W : World) (ao : Option Addr) (l : List Ac) : Prop := 0 < l.length → ∃ a, ao = some a ∧ a.block < W.heap.size ∧ ∀ i (hi : i < l.length), ACells W (a.add (i * 3)) l[i]
theorem ARow.kept {W W' : World} {ao : Option Addr} {l : List Ac} (h : ARow W ao l) {B : Nat} (hB : ∀ a, ao = some a → a.block < B) (hb : Below B W W') (hs : W.heap.size ≤ W'.heap.size) : ARow W' ao l := fun h0 => by
  obtain ⟨a, rfl, h1, h2⟩ := h h0
  have hab := hB a rfl
  refine ⟨a, rfl, by omega, fun i hi => ?_⟩
  obtain ⟨c0, c1, c2⟩ := h2 i hi
  have hbl : (a.add (i * 3)).block < B := by rw [block_add]; exact hab
  exact ⟨(hb.cell (p := a.add (i * 3)) hbl).trans c0, (hb.cell (p := ⟨(a.add (i * 3)).block, (a.add (i * 3)).off + 1, none⟩) hbl).trans c1, (hb.cell (p := ⟨(a.add (i * 3)).block, (a.add (i * 3)).off + 2, none⟩) hbl).trans c2⟩
theorem cellsInt : Tryd.prog.cellsOf 3 = 1 := by kernel_rfl
theorem cellsStr : Tryd.prog.cellsOf 9 = 1 := by kernel_rfl
/-! numbers -/
def NRow (W : World) (ao : Option Addr) (l : List Int) : Prop := 0 < l.length → ∃ a, ao = some a ∧ a.block < W.heap.size ∧ ∀ i (hi : i < l.length), W.cell? (a.add i) = some (.int .i64 l[i])
theorem NRow.kept {W W' : World} {ao : Option Addr} {l : List Int} (h : NRow W ao l) {B : Nat} (hB : ∀ a, ao = some a → a.block < B) (hb : Below B W W') (hs : W.heap.size ≤ W'.heap.size) : NRow W' ao l := fun h0 => by
  obtain ⟨a, rfl, h1, h2⟩ := h h0
  exact ⟨a, rfl, by omega, fun i hi => (hb.cell (p := a.add i) (by rw [block_add]; exact hB a rfl)).trans (h2 i hi)⟩
theorem open_nums {H : Type} {enc : TypeId × Value → H} {W : World} {ao : Option Addr} {len cap fuel : Nat} {x : DataW H × List MemPlace}
    (h : DataW.trod enc Tryd.prog W 0 (fun _ => true) true fuel 81 [.slice ao len cap] = some x) :
    ∃ l : List Int, l.length = len ∧ NRow W ao l ∧ len ≤ 9223372036854775807 := by
  rcases Go.Deep.open_slice Tryd.underlying81 h with ⟨hcs, _⟩ | ⟨a, n, c, m, nf, D, Pl, hcs, hb, hl, hm, hmm, hx, hcell⟩
  · simp at hcs
    obtain ⟨rfl, rfl, rfl⟩ := hcs
    exact ⟨[], rfl, fun h => by simp at h, by decide⟩
  · simp at hcs
    obtain ⟨rfl, rfl, rfl⟩ := hcs
    have hm2 : m = cap := by simpa using hmm
    subst hm2
    unfold maxLen at hm
    have each : ∀ i, i < len → ∃ s : Int, W.cell? (a.add i) = some (.int .i64 s) := fun i hi => by
      obtain ⟨cs', h1, h2⟩ := hcell i (by omega)
      rw [cellsInt, Nat.mul_one] at h1
      obtain ⟨s, rfl, _, hs⟩ := DataW.trod_int Tryd.underlying3 h2
      obtain ⟨_, hlen, hc⟩ := World.cells?_some h1
      have := hc 0 (by omega)
      rw [Go.Deep.add_add, Nat.add_zero] at this
      exact ⟨s, by simpa using this⟩
    obtain ⟨q, hq⟩ := Go.Deep.choose_lt (α := Int) each
    refine ⟨(List.range len).map q, by simp, fun h0 => ?_, by omega⟩
    refine ⟨a, rfl, ?_, fun i hi => ?_⟩
    · have := cell_lt (hq 0 (by simpa using h0))
      rwa [block_add] at this
    · have hi' : i < len := by simpa using hi
      simp only [List.getElem_map, List.getElem_range]
      exact hq i hi'
end Go.Proofs.YtadejeoiffaimaaDoor.Sk
