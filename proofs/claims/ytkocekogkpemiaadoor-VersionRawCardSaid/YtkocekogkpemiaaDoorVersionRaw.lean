/-
  The law VersionRaw returns true at every input. No condition.
-/
import Derived.Test.YtkocekogkpemiaaDoorVeCard
namespace Go.Proofs.YtkocekogkpemiaaDoor.versionRaw
open Go.ChangeShapes Go.WideShapes Go.ChangeAt Go.RowKit
open Go.Proofs.YtkocekogkpemiaaDoor
open Vi Ed Ve

def four {α : Type} (a b c d : α) (i : Nat) : α := if i = 0 then a else if i = 1 then b else if i = 2 then c else d
theorem walk (l0 l1 l2 l3 : List Fil) (a0 a1 a2 a3 : Option Addr) (c0 c1 c2 c3 : Nat) (w : World) (ht : Tab w) (r0 : FRow w a0 l0) (r1 : FRow w a1 l1) (r2 : FRow w a2 l2) (r3 : FRow w a3 l3)
    (o0 : ∀ p ∈ l0, p.ok) (o1 : ∀ p ∈ l1, p.ok) (o2 : ∀ p ∈ l2, p.ok) (o3 : ∀ p ∈ l3, p.ok) (n0 : l0.length ≤ 9223372036854775807) (n1 : l1.length ≤ 9223372036854775807) (n2 : l2.length ≤ 9223372036854775807) (n3 : l3.length ≤ 9223372036854775807) :
    Calls Tryd.prog 3 #[.slice a0 l0.length c0, .slice a1 l1.length c1, .slice a2 l2.length c2, .slice a3 l3.length c3] w fun e w' => e = .returned (.bool true) ∧ Below w.heap.size w w' :=
  law13 ht (four l0 l1 l2 l3) (four a0 a1 a2 a3) (four c0 c1 c2 c3)
    (fun i hi => by rcases (by omega : i = 0 ∨ i = 1 ∨ i = 2 ∨ i = 3) with rfl | rfl | rfl | rfl <;> first | exact r0 | exact r1 | exact r2 | exact r3)
    (fun i hi => by rcases (by omega : i = 0 ∨ i = 1 ∨ i = 2 ∨ i = 3) with rfl | rfl | rfl | rfl <;> first | exact o0 | exact o1 | exact o2 | exact o3)
    (fun i hi => by rcases (by omega : i = 0 ∨ i = 1 ∨ i = 2 ∨ i = 3) with rfl | rfl | rfl | rfl <;> first | exact n0 | exact n1 | exact n2 | exact n3)
set_option maxRecDepth 100000 in
theorem contract (H : Type) (enc : TypeId × Value → H) (W : World) (base : Nat) (args : Array Value) (ds gs : List (DataW H)) (before : List MemPlace)
    (hval : ∀ (j : Nat) t v, Tryd.f3.params[j]? = some t → args[j]? = some v → Value.okWide Tryd.prog W .any base t v)
    (hW : DataW.Whole enc Tryd.prog Tryd.f3.params.toList Rows.versionRawSpec.vars false W args.toList ds gs before) (hw : Tab W) :
    Calls Tryd.prog 3 args W fun e W' => ∃ v, e = .returned v ∧ Rows.versionRawSpec.post enc Tryd.prog Tryd.f3 false true false false W args v W' := by
  have hW' := hW
  obtain ⟨p, q, hA0, hV, rfl, hfz, hnd⟩ := hW
  have hA : DataW.TrodAll enc Tryd.prog W 0 (fun _ => true) true Tryd.f3.params.toList args.toList ds p := hA0
  rw [Tryd.params3] at hA hval
  obtain ⟨v0, vs0, d0, ds0, p0, q0, hargs, rfl, rfl, h0, r0⟩ := trodAll_cons hA
  obtain ⟨v1, vs1, d1, ds1, p1, q1, rfl, rfl, rfl, h1, r1⟩ := trodAll_cons r0
  obtain ⟨v2, vs2, d2, ds2, p2, q2, rfl, rfl, rfl, h2, r2⟩ := trodAll_cons r1
  obtain ⟨v3, vs3, d3, ds3, p3, q3, rfl, rfl, rfl, h3, r3⟩ := trodAll_cons r2
  obtain ⟨rfl, rfl, rfl⟩ := trodAll_nil r3
  obtain rfl : args = #[v0, v1, v2, v3] := by cases args; simp_all
  have h0' : ∃ (l : List Fil) (ao : Option Addr) (cap : Nat), v0 = .slice ao l.length cap ∧ FRow W ao l ∧ l.length ≤ 9223372036854775807 ∧ ∀ p ∈ l, p.ok := by
    obtain ⟨ao, len, cap, rfl⟩ := okWide_slice Tryd.underlying22 (hval 0 22 v0 rfl rfl)
    obtain ⟨_, hh⟩ := h0
    exact open_files (by exact hh)
  have h1' : ∃ (l : List Fil) (ao : Option Addr) (cap : Nat), v1 = .slice ao l.length cap ∧ FRow W ao l ∧ l.length ≤ 9223372036854775807 ∧ ∀ p ∈ l, p.ok := by
    obtain ⟨ao, len, cap, rfl⟩ := okWide_slice Tryd.underlying22 (hval 1 22 v1 rfl rfl)
    obtain ⟨_, hh⟩ := h1
    exact open_files (by exact hh)
  have h2' : ∃ (l : List Fil) (ao : Option Addr) (cap : Nat), v2 = .slice ao l.length cap ∧ FRow W ao l ∧ l.length ≤ 9223372036854775807 ∧ ∀ p ∈ l, p.ok := by
    obtain ⟨ao, len, cap, rfl⟩ := okWide_slice Tryd.underlying22 (hval 2 22 v2 rfl rfl)
    obtain ⟨_, hh⟩ := h2
    exact open_files (by exact hh)
  have h3' : ∃ (l : List Fil) (ao : Option Addr) (cap : Nat), v3 = .slice ao l.length cap ∧ FRow W ao l ∧ l.length ≤ 9223372036854775807 ∧ ∀ p ∈ l, p.ok := by
    obtain ⟨ao, len, cap, rfl⟩ := okWide_slice Tryd.underlying22 (hval 3 22 v3 rfl rfl)
    obtain ⟨_, hh⟩ := h3
    exact open_files (by exact hh)
  obtain ⟨l0, a0, c0, e0, f0, n0, o0⟩ := h0'
  obtain ⟨l1, a1, c1, e1, f1, n1, o1⟩ := h1'
  obtain ⟨l2, a2, c2, e2, f2, n2, o2⟩ := h2'
  obtain ⟨l3, a3, c3, e3, f3, n3, o3⟩ := h3'
  have main := walk l0 l1 l2 l3 a0 a1 a2 a3 c0 c1 c2 c3 W hw f0 f1 f2 f3 o0 o1 o2 o3 n0 n1 n2 n3
  rw [← e0, ← e1, ← e2, ← e3] at main
  refine main.mono fun e W' ⟨he, hb⟩ => ?_
  exact ⟨_, he, post_law hW' rfl rfl rfl (by rw [Tryd.params3]; decide +kernel) hb⟩
def laids : List (String × DataW Unit) := Rows.versionRawRow.laid
theorem laid_shaped (os : Os) (args : Array Value) : ((World.laidAll Tryd.prog os laids).forCall (fun _ _ => 0) ⟨#[], args, []⟩).Shaped Tryd.prog :=
  World.shaped_of_ZipB (by kernel_rfl) (by kernel_rfl)
theorem laid_met (os : Os) (args : Array Value) : laidMetH Tryd.prog laids ((World.laidAll Tryd.prog os laids).forCall (fun _ _ => 0) ⟨#[], args, []⟩).memory := by
  rw [MakeChecks.laidMetH_plain _ _ _ (by kernel_rfl)]
  exact laidMet_laidAll _ (by kernel_rfl) (by kernel_rfl)
set_option maxRecDepth 100000 in
theorem lifted (os : Os) (started : os.Started) (H : Type) (enc : TypeId × Value → H) (F : Stop.Interp) :
    ReturnsInHanded {} Tryd.checked os 3 .any ((OpenSpec.ofChange Rows.versionRawSpec).preRow enc Tryd.prog Tryd.f3 Rows.versionRawRow.domain false Rows.versionRawRow.laid) (((OpenSpec.ofChange Rows.versionRawSpec).at F).post enc Tryd.prog Tryd.f3 false true false false) := by
  refine returnsInHanded_of_row (C := Tryd.checked) (s := OpenSpec.ofChange Rows.versionRawSpec) own started (by kernel_rfl) Tryd.func3
    (ChangeSpec.witness_shaped (enc := enc) (C := Tryd.checked) (os := os) (X := fun w _ => laidMetH Tryd.prog laids w) false (World.laidAll Tryd.prog os laids) #[.slice none 0 0, .slice none 0 0, .slice none 0 0, .slice none 0 0] 8 (World.laidAll_os _ _ _) (laid_shaped os _) (by kernel_rfl) (by kernel_rfl) (by kernel_rfl) (laid_met os _)) ?_
  intro W base args ds gs before hval hW _ _ _ hL _ _
  rw [MakeChecks.laidMetH_plain _ _ _ (by kernel_rfl)] at hL
  exact contract H enc W base args ds gs before hval hW (Ve.tab_of (hL.tail.tail))
set_option maxRecDepth 100000 in
theorem said : Rows.VersionRawSaid :=
  OpenClaim.holds_of_cond 3 Tryd.f3 rfl rfl rfl rfl rfl rfl rfl ⟨rfl, rfl, rfl, rfl, rfl⟩ rfl rfl rfl rfl rfl (by kernel_rfl) Tryd.func3 (by kernel_rfl)
    (of_decide_eq_true (by kernel_rfl)) (by unfold Func.isWrapper; first | (rw [if_pos (by decide +kernel)]; kernel_rfl) | (rw [if_neg (by decide +kernel)]; exact ⟨rfl, rfl⟩))
    (fun os started H enc _ F => by rw [OpenClaim.pre_eq_preRow]; exact lifted os started H enc F)
set_option maxRecDepth 100000 in
theorem plain (f : FuncId) (fn : Func) (hf : Tryd.pinned.checked.prog.funcNamed Rows.versionRawRow.func = some f) (hfn : Tryd.pinned.checked.prog.funcs[f]? = some fn) :
    false = Tryd.pinned.checked.prog.looks [] ∧ ∀ (j : Nat) t, fn.params[j]? = some t → Tryd.pinned.checked.prog.wantsStandIn t = false := by
  obtain rfl : f = 3 := Option.some.inj ((show Tryd.prog.funcNamed Rows.versionRawRow.func = some 3 by kernel_rfl).symm.trans hf) |>.symm
  obtain rfl : fn = Tryd.f3 := (Option.some.inj (Tryd.func3.symm.trans hfn)).symm
  refine ⟨by kernel_rfl, fun j t ht => ?_⟩
  rw [Tryd.params3] at ht
  have hm : t ∈ [22, 22, 22, 22] := by simpa using Array.mem_of_getElem? ht
  have hall : ([22, 22, 22, 22].all fun u => !Tryd.prog.wantsStandIn u) = true := by kernel_rfl
  exact (show Tryd.prog.wantsStandIn t = false by simpa using List.all_eq_true.1 hall t hm)
set_option maxRecDepth 100000 in
theorem proved : Rows.VersionRawCardSaid :=
  Claim7.holds_tied_plain_at .later [] _ _ _ _ said (fun _ h => by cases h) (by kernel_rfl) (fun _ h => by cases h) versionRaw_row_tie rfl ⟨rfl, rfl⟩ (by kernel_rfl) rfl plain (by kernel_rfl)
#print axioms proved
end Go.Proofs.YtkocekogkpemiaaDoor.versionRaw
