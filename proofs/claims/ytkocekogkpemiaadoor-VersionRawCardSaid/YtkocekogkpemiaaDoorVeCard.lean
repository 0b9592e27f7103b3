/-
  What the row of versions asks: a world in which the listed variables of the library lie. Conditions: as each theorem states.
-/
import Derived.Test.YtkocekogkpemiaaDoorCards
import Derived.Test.YtkocekogkpemiaaDoorTie
import Derived.Test.YtkocekogkpemiaaDoorLaw
import Derived.Test.YtkocekogkpemiaaDoorVeL
import Derived.Stop.LaidErr
import Derived.Lay
import Derived.LaidMore
import Derived.WideShapes
import Derived.Deep.SlicePairs
import Derived.SevenTiedAt
import Derived.Stop.Joined
import Derived.Deep.DeepHandedRow
import Derived.HandedShaped
namespace Go.Proofs.YtkocekogkpemiaaDoor.Ve
open Go.ChangeShapes Go.WideShapes Go.ChangeAt Go.RowKit
open Go.Proofs.YtkocekogkpemiaaDoor

open Vi Ed
theorem gPow : ∃ g, Tryd.prog.globalNamed "internal/strconv.uint64pow10" = some g ∧ (Tryd.prog.globals[g]?).map (·.type) = some 131 := ⟨0, by kernel_rfl, by kernel_rfl⟩
theorem pow_tab : (Rows.laid_internal_strconv_uint64pow10 : DataW Unit) = Lib.tabData .u64 Lib.pow10Tab := by kernel_rfl
theorem tab_of {W : World} {r : List (String × DataW Unit)} (h : laidMet Tryd.prog (("internal/strconv.uint64pow10", Rows.laid_internal_strconv_uint64pow10) :: r) W) : Tab W := by
  rw [pow_tab] at h
  obtain ⟨g, hg, ht⟩ := gPow
  exact Lib.tabIs_of_head hg ht Tryd.underlying131 Tryd.underlying32 (by kernel_rfl) (by kernel_rfl) h
/-! an argument that is a row of files, opened -/
theorem cellsFile : Tryd.prog.cellsOf 34 = 5 := by kernel_rfl
theorem cellsU64 : Tryd.prog.cellsOf 32 = 1 := by kernel_rfl
theorem cellsStr : Tryd.prog.cellsOf 9 = 1 := by kernel_rfl
set_option maxRecDepth 100000 in
theorem open_file {H : Type} {enc : TypeId × Value → H} {W : World} {fuel : Nat} {cs : List Value} {x : DataW H × List MemPlace} {q : Addr}
    (h1 : W.cells? 0 q 5 = some cs) (h2 : DataW.trod enc Tryd.prog W 0 (fun _ => true) true fuel 34 cs = some x) :
    ∃ p : Fil, FCells W q p ∧ p.ok := by
  obtain ⟨_, hlen, hcell⟩ := World.cells?_some h1
  obtain ⟨zs, k2, hk2, hzy, _, hzl, hz⟩ := DataW.trod_struct Tryd.underlying34 h2
  match zs, hzl, cs, hlen with
  | [u0, u1, u2, u3, u4], _, [v1, v2, v3, v4, v5], _ =>
    have b0 := hz 0 _ rfl
    have b1 := hz 1 _ rfl
    have b2 := hz 2 _ rfl
    have b3 := hz 3 _ rfl
    have b4 := hz 4 _ rfl
    simp [cellsU64, cellsStr] at b0 b1 b2 b3 b4
    obtain ⟨n1, e1, _, w1⟩ := DataW.trod_int Tryd.underlying32 b0
    obtain ⟨n2, e2, _, w2⟩ := DataW.trod_int Tryd.underlying32 b1
    obtain ⟨n3, e3, _, w3⟩ := DataW.trod_int Tryd.underlying32 b2
    obtain ⟨s1, e4, _, w4⟩ := DataW.trod_string Tryd.underlying9 b3
    obtain ⟨s2, e5, _, w5⟩ := DataW.trod_string Tryd.underlying9 b4
    obtain ⟨m1, rfl, l1⟩ := u64_nat w1
    obtain ⟨m2, rfl, l2⟩ := u64_nat w2
    obtain ⟨m3, rfl, l3⟩ := u64_nat w3
    have c1 := hcell 0 (by omega)
    have c2 := hcell 1 (by omega)
    have c3 := hcell 2 (by omega)
    have c4 := hcell 3 (by omega)
    have c5 := hcell 4 (by omega)
    refine ⟨⟨0, m1, m2, m3, s1, s2⟩, ⟨?_, ?_, ?_, ?_, ?_⟩, (by show (-9223372036854775808 : Int) ≤ 0; decide), (by show (0 : Int) ≤ 9223372036854775807; decide), l1, l2, l3, w4, w5⟩
    · rw [show q = q.add 0 from rfl, c1]; simpa using e1
    · show W.cell? (q.add 1) = _; rw [c2]; simpa using e2
    · show W.cell? (q.add 2) = _; rw [c3]; simpa using e3
    · show W.cell? (q.add 3) = _; rw [c4]; simpa using e4
    · show W.cell? (q.add 4) = _; rw [c5]; simpa using e5
theorem open_files {H : Type} {enc : TypeId × Value → H} {W : World} {v : Value} {fuel : Nat} {x : DataW H × List MemPlace}
    (h : DataW.trod enc Tryd.prog W 0 (fun _ => true) true fuel 22 [v] = some x) :
    ∃ (l : List Fil) (ao : Option Addr) (cap : Nat), v = .slice ao l.length cap ∧ FRow W ao l ∧ l.length ≤ 9223372036854775807 ∧ ∀ p ∈ l, p.ok := by
  rcases Go.Deep.open_slice Tryd.underlying22 h with ⟨hcs, _⟩ | ⟨a, n, c, m, nf, D, Pl, hcs, hb, hl, hm, hmm, hx, hcell⟩
  · simp at hcs
    subst hcs
    exact ⟨[], none, 0, rfl, frow_nil _ _, by decide, fun p hp => by cases hp⟩
  · simp at hcs
    subst hcs
    have hm2 : m = c := by simpa using hmm
    subst hm2
    unfold maxLen at hm
    have each : ∀ i, i < n → ∃ p : Fil, FCells W (a.add (i * 5)) p ∧ p.ok := fun i hi => by
      obtain ⟨cs', h1, h2⟩ := hcell i (by omega)
      rw [cellsFile] at h1
      exact open_file h1 h2
    obtain ⟨q, hq⟩ := Go.Deep.choose_lt (α := Fil) each
    refine ⟨(List.range n).map q, some a, m, by simp, fun h0 => ⟨a, rfl, ?_, fun i hi => ?_⟩, by simp; omega, fun p hp => ?_⟩
    · have := cell_lt (hq 0 (by simpa using h0)).1.1
      rwa [Ed.block_add] at this
    · have hi' : i < n := by simpa using hi
      simp only [List.getElem_map, List.getElem_range]
      exact (hq i hi').1
    · obtain ⟨i, hi, rfl⟩ := List.mem_map.1 hp
      exact (hq i (List.mem_range.1 hi)).2
end Go.Proofs.YtkocekogkpemiaaDoor.Ve
