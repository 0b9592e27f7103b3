/-
  An argument that is a row of parts, opened: the row that lies there. Conditions: as the theorem states.
-/
import Derived.Test.YtelbhegkaihjhaaDoorKyC
import Derived.Test.YtelbhegkaihjhaaDoorLaw
import Derived.Deep.SlicePairs
namespace Go.Proofs.YtelbhegkaihjhaaDoor
open Go.ChangeShapes Go.WideShapes Go.ChangeAt Go.RowKit
open Vi

theorem u8_nat {a : Int} (w0 : (Lit.int .u8 a).wf = true) : ∃ n : Nat, a = n ∧ n < 256 := by
  have hx : 0 ≤ a ∧ a ≤ 255 := by simpa [Lit.wf, IntKind.min, IntKind.max, IntKind.signed, IntKind.bits] using w0
  exact ⟨a.toNat, by omega, by omega⟩
instance : Inhabited KPart := ⟨⟨0, 0, 0, ⟨#[]⟩⟩⟩
theorem cellsPart : Tryd.prog.cellsOf 49 = 4 := by kernel_rfl
theorem cells8 : Tryd.prog.cellsOf 5 = 1 := by kernel_rfl
theorem cellsI : Tryd.prog.cellsOf 2 = 1 := by kernel_rfl
theorem cellsU : Tryd.prog.cellsOf 22 = 1 := by kernel_rfl
theorem cellsS : Tryd.prog.cellsOf 9 = 1 := by kernel_rfl
set_option maxRecDepth 100000 in
theorem open_part {H : Type} {enc : TypeId × Value → H} {W : World} {fuel : Nat} {cs : List Value} {x : DataW H × List MemPlace} {q : Addr}
    (h1 : W.cells? 0 q 4 = some cs) (h2 : DataW.trod enc Tryd.prog W 0 (fun _ => true) true fuel 49 cs = some x) :
    ∃ p : KPart, PCells W q p ∧ p.ok ∧ p.s.size ≤ 9223372036854775807 := by
  obtain ⟨_, hlen, hcell⟩ := World.cells?_some h1
  obtain ⟨xs, k, hk, hxy, _, hxl, hf⟩ := DataW.trod_struct Tryd.underlying49 h2
  match xs, hxl, cs, hlen with
  | [y0, y1, y2, y3], _, [v0, v1, v2, v3], _ =>
    have g0 := hf 0 _ rfl
    have g1 := hf 1 _ rfl
    have g2 := hf 2 _ rfl
    have g3 := hf 3 _ rfl
    simp [cells8, cellsI, cellsU, cellsS] at g0 g1 g2 g3
    obtain ⟨n0, e0, _, w0⟩ := DataW.trod_int Tryd.underlying5 g0
    obtain ⟨n1, e1, _, w1⟩ := DataW.trod_int Tryd.underlying2 g1
    obtain ⟨n2, e2, _, w2⟩ := DataW.trod_int Tryd.underlying22 g2
    obtain ⟨s, e3, _, w3⟩ := DataW.trod_string Tryd.underlying9 g3
    obtain ⟨a0, rfl, b0⟩ := u8_nat w0
    obtain ⟨b1, b2⟩ := i64_bd w1
    obtain ⟨a2, rfl, b3⟩ := u64_nat w2
    have c0 := hcell 0 (by omega)
    have c1 := hcell 1 (by omega)
    have c2 := hcell 2 (by omega)
    have c3 := hcell 3 (by omega)
    refine ⟨⟨a0, n1, a2, s⟩, ⟨?_, ?_, ?_, ?_⟩, ⟨b0, b1, b2, b3⟩, w3⟩
    · rw [show q = q.add 0 from rfl, c0]; simpa using e0
    · show W.cell? (q.add 1) = _; rw [c1]; simpa using e1
    · show W.cell? (q.add 2) = _; rw [c2]; simpa using e2
    · show W.cell? (q.add 3) = _; rw [c3]; simpa using e3
theorem open_parts {H : Type} {enc : TypeId × Value → H} {W : World} {ao : Option Addr} {len cap fuel : Nat} {x : DataW H × List MemPlace}
    (h : DataW.trod enc Tryd.prog W 0 (fun _ => true) true fuel 44 [.slice ao len cap] = some x) :
    ∃ l : List KPart, l.length = len ∧ PRow W ao l ∧ len ≤ 9223372036854775807 ∧ ∀ p ∈ l, p.ok ∧ p.s.size ≤ 9223372036854775807 := by
  rcases Go.Deep.open_slice Tryd.underlying44 h with ⟨hcs, _⟩ | ⟨a, n, c, m, nf, D, Pl, hcs, hb, hl, hm, hmm, hx, hcell⟩
  · simp at hcs
    obtain ⟨rfl, rfl, rfl⟩ := hcs
    exact ⟨[], rfl, fun h => by simp at h, by decide, fun p hp => by cases hp⟩
  · simp at hcs
    obtain ⟨rfl, rfl, rfl⟩ := hcs
    have hm2 : m = cap := by simpa using hmm
    subst hm2
    unfold maxLen at hm
    have each : ∀ i, i < len → ∃ p : KPart, PCells W (a.add (i * 4)) p ∧ p.ok ∧ p.s.size ≤ 9223372036854775807 := fun i hi => by
      obtain ⟨cs', h1, h2⟩ := hcell i (by omega)
      rw [cellsPart] at h1
      exact open_part h1 h2
    obtain ⟨q, hq⟩ := Go.Deep.choose_lt (α := KPart) each
    refine ⟨(List.range len).map q, by simp, fun h0 => ?_, by omega, fun p hp => ?_⟩
    · refine ⟨a, rfl, ?_, fun i hi => ?_⟩
      · have := cell_lt (hq 0 (by simpa using h0)).1.1
        rwa [block_add] at this
      · have hi' : i < len := by simpa using hi
        simp only [List.getElem_map, List.getElem_range]
        exact (hq i hi').1
    · obtain ⟨i, hi, rfl⟩ := List.mem_map.1 hp
      exact (hq i (List.mem_range.1 hi)).2
end Go.Proofs.YtelbhegkaihjhaaDoor
