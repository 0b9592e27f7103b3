/-
  An argument that is a row of changes, opened: the row that lies there. Conditions: as the theorem states.
-/
import Derived.Test.YtbolklpdbckefaaBaI
import Derived.Test.YtbolklpdbckefaaLaw
import Derived.Deep.SlicePairs
namespace Go.Proofs.Ytbolklpdbckefaa.Ba
open Go.ChangeShapes Go.WideShapes Go.ChangeAt Go.RowKit
open Go.Proofs.Ytbolklpdbckefaa

theorem cellsChg : Try.prog.cellsOf 35 = 3 := by kernel_rfl
theorem cellsInt : Try.prog.cellsOf 3 = 1 := by kernel_rfl
theorem cellsStr : Try.prog.cellsOf 9 = 1 := by kernel_rfl
set_option maxRecDepth 100000 in
theorem open_chg {H : Type} {enc : TypeId × Value → H} {W : World} {fuel : Nat} {cs : List Value} {x : DataW H × List MemPlace} {q : Addr}
    (h1 : W.cells? 0 q 3 = some cs) (h2 : DataW.trod enc Try.prog W 0 (fun _ => true) true fuel 35 cs = some x) :
    ∃ p : Chg, CCells W q p ∧ p.small := by
  obtain ⟨_, hlen, hcell⟩ := World.cells?_some h1
  obtain ⟨xs, k, hk, hxy, _, hxl, hf⟩ := DataW.trod_struct Try.underlying35 h2
  match xs, hxl, cs, hlen with
  | [y0, y1, y2], _, [v0, v1, v2], _ =>
    have g0 := hf 0 _ rfl
    have g1 := hf 1 _ rfl
    have g2 := hf 2 _ rfl
    simp [cellsInt, cellsStr] at g0 g1 g2
    obtain ⟨n0, e0, _, w0⟩ := DataW.trod_int Try.underlying3 g0
    obtain ⟨s1, e1, _, w1⟩ := DataW.trod_string Try.underlying9 g1
    obtain ⟨s2, e2, _, w2⟩ := DataW.trod_string Try.underlying9 g2
    have c0 := hcell 0 (by omega)
    have c1 := hcell 1 (by omega)
    have c2 := hcell 2 (by omega)
    refine ⟨⟨n0, s1, s2⟩, ⟨?_, ?_, ?_⟩, w1, w2⟩
    · rw [show q = q.add 0 from rfl, c0]; simpa using e0
    · show W.cell? (q.add 1) = _; rw [c1]; simpa using e1
    · show W.cell? (q.add 2) = _; rw [c2]; simpa using e2
theorem open_changes {H : Type} {enc : TypeId × Value → H} {W : World} {ao : Option Addr} {len cap fuel : Nat} {x : DataW H × List MemPlace}
    (h : DataW.trod enc Try.prog W 0 (fun _ => true) true fuel 23 [.slice ao len cap] = some x) :
    ∃ l : List Chg, l.length = len ∧ CRow W ao l ∧ len ≤ 9223372036854775807 ∧ len ≤ cap ∧ ∀ p ∈ l, p.small := by
  rcases Go.Deep.open_slice Try.underlying23 h with ⟨hcs, _⟩ | ⟨a, n, c, m, nf, D, Pl, hcs, hb, hl, hm, hmm, hx, hcell⟩
  · simp at hcs
    obtain ⟨rfl, rfl, rfl⟩ := hcs
    exact ⟨[], rfl, fun h => by simp at h, by decide, by decide, fun p hp => by cases hp⟩
  · simp at hcs
    obtain ⟨rfl, rfl, rfl⟩ := hcs
    have hm2 : m = cap := by simpa using hmm
    subst hm2
    unfold maxLen at hm
    have each : ∀ i, i < len → ∃ p : Chg, CCells W (a.add (i * 3)) p ∧ p.small := fun i hi => by
      obtain ⟨cs', h1, h2⟩ := hcell i (by omega)
      rw [cellsChg] at h1
      exact open_chg h1 h2
    obtain ⟨q, hq⟩ := Go.Deep.choose_lt (α := Chg) each
    refine ⟨(List.range len).map q, by simp, fun h0 => ?_, by omega, by omega, fun p hp => ?_⟩
    · refine ⟨a, rfl, ?_, fun i hi => ?_⟩
      · have := cell_lt (hq 0 (by simpa using h0)).1.1
        rwa [block_add] at this
      · have hi' : i < len := by simpa using hi
        simp only [List.getElem_map, List.getElem_range]
        exact (hq i hi').1
    · obtain ⟨i, hi, rfl⟩ := List.mem_map.1 hp
      exact (hq i (List.mem_range.1 hi)).2
end Go.Proofs.Ytbolklpdbckefaa.Ba
