/-
  The laws' scripts: their arguments opened, Light, and rows held against one another. Conditions: as each theorem states.
-/
import Derived.Test.YtnnjbofkkaonoaaSkM
import Derived.Test.YtnnjbofkkaonoaaLaw
import Derived.Deep.SlicePairs
namespace Go.Proofs.Ytnnjbofkkaonoaa.Sk
open Go.ChangeShapes Go.WideShapes Go.ChangeAt Go.RowKit
open Go.Proofs.Ytnnjbofkkaonoaa

structure Ac where
  key : ByteArray
  value : ByteArray
  height : Int
instance : Inhabited Ac := ⟨⟨⟨#[]⟩, ⟨#[]⟩, 0⟩⟩
theorem block_add (a : Addr) (n : Nat) : (a.add n).block = a.block := by unfold Addr.add; split <;> rfl
theorem cell_lt {w : World} {p : Addr} {v : Value} (h : w.cell? p = some v) : p.block < w.heap.size := by
  rcases Nat.lt_or_ge p.block w.heap.size with h' | h'
  · exact h'
  · unfold World.cell? at h
    rw [Array.getElem?_eq_none h'] at h
    simp at h
def ACells (W : World) (q : Addr) (p : Ac) : Prop := W.cell? q = some (.string p.key) ∧ W.cell? ⟨q.block, q.off + 1, none⟩ = some (.string p.value) ∧ W.cell? ⟨q.block, q.off + 2, none⟩ = some (.int .i64 p.height)
def ARow (W : World) (ao : Option Addr) (l : List Ac) : Prop := 0 < l.length → ∃ a, ao = some a ∧ a.block < W.heap.size ∧ ∀ i (hi : i < l.length), ACells W (a.add (i * 3)) l[i]
theorem ARow.kept {W W' : World} {ao : Option Addr} {l : List Ac} (h : ARow W ao l) {B : Nat} (hB : ∀ a, ao = some a → a.block < B) (hb : Below B W W') (hs : W.heap.size ≤ W'.heap.size) : ARow W' ao l := fun h0 => by
  obtain ⟨a, rfl, h1, h2⟩ := h h0
  have hab := hB a rfl
  refine ⟨a, rfl, by omega, fun i hi => ?_⟩
  obtain ⟨c0, c1, c2⟩ := h2 i hi
  have hbl : (a.add (i * 3)).block < B := by rw [block_add]; exact hab
  exact ⟨(hb.cell (p := a.add (i * 3)) hbl).trans c0, (hb.cell (p := ⟨(a.add (i * 3)).block, (a.add (i * 3)).off + 1, none⟩) hbl).trans c1, (hb.cell (p := ⟨(a.add (i * 3)).block, (a.add (i * 3)).off + 2, none⟩) hbl).trans c2⟩
theorem cellsAct : Try.prog.cellsOf 30 = 3 := by kernel_rfl
theorem cellsInt : Try.prog.cellsOf 3 = 1 := by kernel_rfl
theorem cellsStr : Try.prog.cellsOf 9 = 1 := by kernel_rfl
set_option maxRecDepth 100000 in
theorem open_act {H : Type} {enc : TypeId × Value → H} {W : World} {fuel : Nat} {cs : List Value} {x : DataW H × List MemPlace} {q : Addr}
    (h1 : W.cells? 0 q 3 = some cs) (h2 : DataW.trod enc Try.prog W 0 (fun _ => true) true fuel 30 cs = some x) :
    ∃ p : Ac, ACells W q p ∧ p.key.size ≤ 9223372036854775807 ∧ p.value.size ≤ 9223372036854775807 := by
  obtain ⟨_, hlen, hcell⟩ := World.cells?_some h1
  obtain ⟨xs, k, hk, hxy, _, hxl, hf⟩ := DataW.trod_struct Try.underlying30 h2
  match xs, hxl, cs, hlen with
  | [y0, y1, y2], _, [v0, v1, v2], _ =>
    have g0 := hf 0 _ rfl
    have g1 := hf 1 _ rfl
    have g2 := hf 2 _ rfl
    simp [cellsInt, cellsStr] at g0 g1 g2
    obtain ⟨s0, e0, _, w0⟩ := DataW.trod_string Try.underlying9 g0
    obtain ⟨s1, e1, _, w1⟩ := DataW.trod_string Try.underlying9 g1
    obtain ⟨n2, e2, _, w2⟩ := DataW.trod_int Try.underlying3 g2
    have c0 := hcell 0 (by omega)
    have c1 := hcell 1 (by omega)
    have c2 := hcell 2 (by omega)
    refine ⟨⟨s0, s1, n2⟩, ⟨?_, ?_, ?_⟩, w0, w1⟩
    · rw [show q = q.add 0 from rfl, c0]; simpa using e0
    · show W.cell? (q.add 1) = _; rw [c1]; simpa using e1
    · show W.cell? (q.add 2) = _; rw [c2]; simpa using e2
theorem open_acts {H : Type} {enc : TypeId × Value → H} {W : World} {ao : Option Addr} {len cap fuel : Nat} {x : DataW H × List MemPlace}
    (h : DataW.trod enc Try.prog W 0 (fun _ => true) true fuel 22 [.slice ao len cap] = some x) :
    ∃ l : List Ac, l.length = len ∧ ARow W ao l ∧ len ≤ 9223372036854775807 ∧ ∀ p ∈ l, p.key.size ≤ 9223372036854775807 ∧ p.value.size ≤ 9223372036854775807 := by
  rcases Go.Deep.open_slice Try.underlying22 h with ⟨hcs, _⟩ | ⟨a, n, c, m, nf, D, Pl, hcs, hb, hl, hm, hmm, hx, hcell⟩
  · simp at hcs
    obtain ⟨rfl, rfl, rfl⟩ := hcs
    exact ⟨[], rfl, fun h => by simp at h, by decide, fun p hp => by cases hp⟩
  · simp at hcs
    obtain ⟨rfl, rfl, rfl⟩ := hcs
    have hm2 : m = cap := by simpa using hmm
    subst hm2
    unfold maxLen at hm
    have each : ∀ i, i < len → ∃ p : Ac, ACells W (a.add (i * 3)) p ∧ p.key.size ≤ 9223372036854775807 ∧ p.value.size ≤ 9223372036854775807 := fun i hi => by
      obtain ⟨cs', h1, h2⟩ := hcell i (by omega)
      rw [cellsAct] at h1
      exact open_act h1 h2
    obtain ⟨q, hq⟩ := Go.Deep.choose_lt (α := Ac) each
    refine ⟨(List.range len).map q, by simp, fun h0 => ?_, by omega, fun p hp => ?_⟩
    · refine ⟨a, rfl, ?_, fun i hi => ?_⟩
      · have := cell_lt (hq 0 (by simpa using h0)).1.1
        rwa [block_add] at this
      · have hi' : i < len := by simpa using hi
        simp only [List.getElem_map, List.getElem_range]
        exact (hq i hi').1
    · obtain ⟨i, hi, rfl⟩ := List.mem_map.1 hp
      exact (hq i (List.mem_range.1 hi)).2
/-! numbers -/
def NRow (W : World) (ao : Option Addr) (l : List Int) : Prop := 0 < l.length → ∃ a, ao = some a ∧ a.block < W.heap.size ∧ ∀ i (hi : i < l.length), W.cell? (a.add i) = some (.int .i64 l[i])
theorem NRow.kept {W W' : World} {ao : Option Addr} {l : List Int} (h : NRow W ao l) {B : Nat} (hB : ∀ a, ao = some a → a.block < B) (hb : Below B W W') (hs : W.heap.size ≤ W'.heap.size) : NRow W' ao l := fun h0 => by
  obtain ⟨a, rfl, h1, h2⟩ := h h0
  exact ⟨a, rfl, by omega, fun i hi => (hb.cell (p := a.add i) (by rw [block_add]; exact hB a rfl)).trans (h2 i hi)⟩
end Go.Proofs.Ytnnjbofkkaonoaa.Sk
