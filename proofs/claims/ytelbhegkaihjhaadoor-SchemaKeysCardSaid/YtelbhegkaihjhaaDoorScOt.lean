/-
  An argument that is a thing, opened. Conditions: as each theorem states.
-/
import Derived.Test.YtelbhegkaihjhaaDoorScA
import Derived.Test.YtelbhegkaihjhaaDoorLaw
import Derived.Deep.SlicePairs
import Derived.WideShapes
namespace Go.Proofs.YtelbhegkaihjhaaDoor
open Go.ChangeShapes Go.WideShapes Go.ChangeAt Go.RowKit

theorem sc_int : Tryd.prog.cellsOf 3 = 1 := by kernel_rfl
theorem sc_u64 : Tryd.prog.cellsOf 22 = 1 := by kernel_rfl
theorem sc_i64 : Tryd.prog.cellsOf 2 = 1 := by kernel_rfl
theorem i64_wf {a : Int} (w0 : (Lit.int .i64 a).wf = true) : -9223372036854775808 ≤ a ∧ a ≤ 9223372036854775807 := by
  simp [Lit.wf] at w0
  have e : IntKind.i64.min = -9223372036854775808 := by decide
  rw [e] at w0
  exact w0
theorem cells_thing : Tryd.prog.cellsOf 24 = 8 := by kernel_rfl
set_option maxRecDepth 100000 in
theorem open_thing {H : Type} {enc : TypeId × Value → H} {W : World} {base : Nat} {v : Value} {dd : DataW H} {ps : List MemPlace}
    (hval : Value.okWide Tryd.prog W .any base 24 v) (hd : DataW.Trod enc Tryd.prog W 0 (fun _ => true) true 24 v dd ps) :
    ∃ x : Th, v = x.val ∧ x.ok ∧ x.name.size ≤ 9223372036854775807 ∧ x.sort.size ≤ 9223372036854775807 := by
  obtain ⟨cs, rfl, hsz⟩ := okWide_struct Tryd.underlying24 hval
  rw [cells_thing] at hsz
  obtain ⟨fuel, hf⟩ := hd
  obtain ⟨xs, k, hk, hxy, _, hxl, hff⟩ := DataW.trod_struct Tryd.underlying24 hf
  obtain ⟨cl⟩ := cs
  match xs, hxl, cl, hsz with
  | [y0, y1, y2, y3, y4, y5, y6, y7], _, [v0, v1, v2, v3, v4, v5, v6, v7], _ =>
    have g0 := hff 0 _ rfl
    have g1 := hff 1 _ rfl
    have g2 := hff 2 _ rfl
    have g3 := hff 3 _ rfl
    have g4 := hff 4 _ rfl
    have g5 := hff 5 _ rfl
    have g6 := hff 6 _ rfl
    have g7 := hff 7 _ rfl
    simp [sc_u64, sc_i64, sc_int, Value.cells] at g0 g1 g2 g3 g4 g5 g6 g7
    obtain ⟨m0, e0, _, w0⟩ := DataW.trod_string Tryd.underlying9 g0
    obtain ⟨n1, e1, _, w1⟩ := DataW.trod_int Tryd.underlying22 g1
    obtain ⟨n2, e2, _, w2⟩ := DataW.trod_int Tryd.underlying22 g2
    obtain ⟨n3, e3, _, w3⟩ := DataW.trod_int Tryd.underlying3 g3
    obtain ⟨n4, e4, _, w4⟩ := DataW.trod_int Tryd.underlying2 g4
    obtain ⟨n5, e5, _, w5⟩ := DataW.trod_int Tryd.underlying22 g5
    obtain ⟨n6, e6, _, w6⟩ := DataW.trod_int Tryd.underlying22 g6
    obtain ⟨m7, e7, _, w7⟩ := DataW.trod_string Tryd.underlying9 g7
    obtain ⟨m1, rfl, l1⟩ := u64_nat w1
    obtain ⟨m2, rfl, l2⟩ := u64_nat w2
    have l3 := i64_wf w3
    have l4 := i64_wf w4
    obtain ⟨m5, rfl, l5⟩ := u64_nat w5
    obtain ⟨m6, rfl, l6⟩ := u64_nat w6
    cases e0; cases e1; cases e2; cases e3; cases e4; cases e5; cases e6; cases e7
    exact ⟨⟨m0, m1, m2, n3, n4, m5, m6, m7⟩, rfl, ⟨l1, l2, l3, l4, l5, l6⟩, w7, w0⟩
end Go.Proofs.YtelbhegkaihjhaaDoor
