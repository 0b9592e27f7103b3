/-
  An argument that is a row of texts, opened: the row that lies there. Conditions: as the theorem states.
-/
import Derived.Test.YtindchneeflgfaaFrK
import Derived.Test.YtindchneeflgfaaLaw
import Derived.Deep.SlicePairs
namespace Go.Proofs.Ytindchneeflgfaa
open Go.ChangeShapes Go.WideShapes Go.ChangeAt Go.RowKit
open Vi

theorem cellsStr : Try.prog.cellsOf 9 = 1 := by kernel_rfl
theorem str_lt {w : World} {p : Addr} {v : Value} (h : w.cell? p = some v) : p.block < w.heap.size := by
  rcases Nat.lt_or_ge p.block w.heap.size with h' | h'
  · exact h'
  · unfold World.cell? at h
    rw [Array.getElem?_eq_none h'] at h
    simp at h
theorem open_strings {H : Type} {enc : TypeId × Value → H} {W : World} {ao : Option Addr} {len cap fuel : Nat} {x : DataW H × List MemPlace}
    (h : DataW.trod enc Try.prog W 0 (fun _ => true) true fuel 35 [.slice ao len cap] = some x) :
    ∃ l : List (List UInt8), l.length = len ∧ SRow W ao l ∧ len ≤ 9223372036854775807 ∧ ∀ s ∈ l, s.length ≤ 9223372036854775807 := by
  rcases Go.Deep.open_slice Try.underlying35 h with ⟨hcs, _⟩ | ⟨a, n, c, m, nf, D, Pl, hcs, hb, hl, hm, hmm, hx, hcell⟩
  · simp at hcs
    obtain ⟨rfl, rfl, rfl⟩ := hcs
    exact ⟨[], rfl, fun h => by simp at h, by decide, fun p hp => by cases hp⟩
  · simp at hcs
    obtain ⟨rfl, rfl, rfl⟩ := hcs
    have hm2 : m = cap := by simpa using hmm
    subst hm2
    unfold maxLen at hm
    have each : ∀ i, i < len → ∃ s : List UInt8, W.cell? (a.add i) = some (.string (bs s)) ∧ s.length ≤ 9223372036854775807 := fun i hi => by
      obtain ⟨cs', h1, h2⟩ := hcell i (by omega)
      rw [cellsStr, Nat.mul_one] at h1
      obtain ⟨s, rfl, _, hs⟩ := DataW.trod_string Try.underlying9 h2
      obtain ⟨_, hlen, hc⟩ := World.cells?_some h1
      have := hc 0 (by omega)
      rw [Go.Deep.add_add, Nat.add_zero] at this
      exact ⟨s.data.toList, by rw [bs_of]; simpa using this, hs⟩
    obtain ⟨q, hq⟩ := Go.Deep.choose_lt (α := List UInt8) each
    refine ⟨(List.range len).map q, by simp, fun h0 => ?_, by omega, fun p hp => ?_⟩
    · refine ⟨a, rfl, ?_, fun i hi => ?_⟩
      · have := str_lt (hq 0 (by simpa using h0)).1
        rwa [block_add] at this
      · have hi' : i < len := by simpa using hi
        simp only [List.getElem_map, List.getElem_range]
        exact (hq i hi').1
    · obtain ⟨i, hi, rfl⟩ := List.mem_map.1 hp
      exact (hq i (List.mem_range.1 hi)).2
end Go.Proofs.Ytindchneeflgfaa
