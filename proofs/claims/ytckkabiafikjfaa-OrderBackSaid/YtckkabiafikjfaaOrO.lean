/-
  Arguments that are orders and balances, opened. Conditions: as each theorem states.
-/
import Derived.Test.YtckkabiafikjfaaOrB
import Derived.Test.YtckkabiafikjfaaLaw
import Derived.Deep.SlicePairs
import Derived.WideShapes
namespace Go.Proofs.Ytckkabiafikjfaa.Odx
open Go.ChangeShapes Go.WideShapes Go.ChangeAt Go.RowKit
open Go.Proofs.Ytckkabiafikjfaa
open Am

theorem cellsInt : Try.prog.cellsOf 3 = 1 := by kernel_rfl
theorem cellsU64 : Try.prog.cellsOf 22 = 1 := by kernel_rfl
theorem cellsI64 : Try.prog.cellsOf 2 = 1 := by kernel_rfl
theorem i64_wf {a : Int} (w0 : (Lit.int .i64 a).wf = true) : -9223372036854775808 ≤ a ∧ a ≤ 9223372036854775807 := by
  simp [Lit.wf] at w0
  have e : IntKind.i64.min = -9223372036854775808 := by decide
  rw [e] at w0
  exact w0
theorem cells_open_order : Try.prog.cellsOf 24 = 9 := by kernel_rfl
set_option maxRecDepth 100000 in
theorem open_order {H : Type} {enc : TypeId × Value → H} {W : World} {base : Nat} {v : Value} {dd : DataW H} {ps : List MemPlace}
    (hval : Value.okWide Try.prog W .any base 24 v) (hd : DataW.Trod enc Try.prog W 0 (fun _ => true) true 24 v dd ps) :
    ∃ o : Odr, v = .agg o.cells ∧ o.ok := by
  obtain ⟨cs, rfl, hsz⟩ := okWide_struct Try.underlying24 hval
  rw [cells_open_order] at hsz
  obtain ⟨fuel, hf⟩ := hd
  obtain ⟨xs, k, hk, hxy, _, hxl, hff⟩ := DataW.trod_struct Try.underlying24 hf
  obtain ⟨cl⟩ := cs
  match xs, hxl, cl, hsz with
  | [y0, y1, y2, y3, y4, y5, y6, y7, y8], _, [v0, v1, v2, v3, v4, v5, v6, v7, v8], _ =>
    have g0 := hff 0 _ rfl
    have g1 := hff 1 _ rfl
    have g2 := hff 2 _ rfl
    have g3 := hff 3 _ rfl
    have g4 := hff 4 _ rfl
    have g5 := hff 5 _ rfl
    have g6 := hff 6 _ rfl
    have g7 := hff 7 _ rfl
    have g8 := hff 8 _ rfl
    simp [cellsU64, cellsI64, cellsInt, Value.cells] at g0 g1 g2 g3 g4 g5 g6 g7 g8
    obtain ⟨n0, e0, _, w0⟩ := DataW.trod_int Try.underlying22 g0
    obtain ⟨n1, e1, _, w1⟩ := DataW.trod_int Try.underlying22 g1
    obtain ⟨n2, e2, _, w2⟩ := DataW.trod_int Try.underlying3 g2
    obtain ⟨n3, e3, _, w3⟩ := DataW.trod_int Try.underlying2 g3
    obtain ⟨n4, e4, _, w4⟩ := DataW.trod_int Try.underlying2 g4
    obtain ⟨n5, e5, _, w5⟩ := DataW.trod_int Try.underlying2 g5
    obtain ⟨n6, e6, _, w6⟩ := DataW.trod_int Try.underlying22 g6
    obtain ⟨n7, e7, _, w7⟩ := DataW.trod_int Try.underlying22 g7
    obtain ⟨n8, e8, _, w8⟩ := DataW.trod_int Try.underlying3 g8
    obtain ⟨m0, rfl, l0⟩ := u64_nat w0
    obtain ⟨m1, rfl, l1⟩ := u64_nat w1
    have l2 : rg n2 := i64_wf w2
    have l3 : rg n3 := i64_wf w3
    have l4 : rg n4 := i64_wf w4
    have l5 : rg n5 := i64_wf w5
    obtain ⟨m6, rfl, l6⟩ := u64_nat w6
    obtain ⟨m7, rfl, l7⟩ := u64_nat w7
    have l8 : rg n8 := i64_wf w8
    simp at e0 e1 e2 e3 e4 e5 e6 e7 e8
    subst e0 e1 e2 e3 e4 e5 e6 e7 e8
    exact ⟨⟨m0, m1, n2, n3, n4, n5, m6, m7, n8⟩, rfl, ⟨l0, l1, l2, l3, l4, l5, l6, l7, l8⟩⟩
theorem cells_open_balance : Try.prog.cellsOf 26 = 2 := by kernel_rfl
set_option maxRecDepth 100000 in
theorem open_balance {H : Type} {enc : TypeId × Value → H} {W : World} {base : Nat} {v : Value} {dd : DataW H} {ps : List MemPlace}
    (hval : Value.okWide Try.prog W .any base 26 v) (hd : DataW.Trod enc Try.prog W 0 (fun _ => true) true 26 v dd ps) :
    ∃ b : Bal, v = .agg b.cells ∧ b.ok := by
  obtain ⟨cs, rfl, hsz⟩ := okWide_struct Try.underlying26 hval
  rw [cells_open_balance] at hsz
  obtain ⟨fuel, hf⟩ := hd
  obtain ⟨xs, k, hk, hxy, _, hxl, hff⟩ := DataW.trod_struct Try.underlying26 hf
  obtain ⟨cl⟩ := cs
  match xs, hxl, cl, hsz with
  | [y0, y1], _, [v0, v1], _ =>
    have g0 := hff 0 _ rfl
    have g1 := hff 1 _ rfl
    simp [cellsU64, cellsI64, cellsInt, Value.cells] at g0 g1
    obtain ⟨n0, e0, _, w0⟩ := DataW.trod_int Try.underlying2 g0
    obtain ⟨n1, e1, _, w1⟩ := DataW.trod_int Try.underlying2 g1
    have l0 : rg n0 := i64_wf w0
    have l1 : rg n1 := i64_wf w1
    simp at e0 e1
    subst e0 e1
    exact ⟨⟨n0, n1⟩, rfl, ⟨l0, l1⟩⟩
end Go.Proofs.Ytckkabiafikjfaa.Odx
