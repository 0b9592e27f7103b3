/-
  The law KeyKeeps returns true at every input. No condition.
-/
import Derived.Test.YtlpobkgmpegfjaaDoorKyS
import Derived.Test.YtlpobkgmpegfjaaDoorKyT
import Derived.Test.YtlpobkgmpegfjaaDoorKyCard
namespace Go.Proofs.YtlpobkgmpegfjaaDoor.keyKeeps
open Go.ChangeShapes Go.WideShapes Go.ChangeAt Go.RowKit
open Go.Proofs.YtlpobkgmpegfjaaDoor
open Vi

theorem light_len {l : List KPart} (h : Light l) : l.length ≤ 30 := by
  rcases Nat.eq_zero_or_pos l.length with h0 | h0
  · omega
  · exact h.1 h0
theorem begins_iff {a b : List KPart} (ha : ∀ p ∈ a, p.ok ∧ (pbytes p).2 = 0 ∧ pplain p = p) (hb : ∀ p ∈ b, p.ok ∧ (pbytes p).2 = 0 ∧ pplain p = p) :
    Lib.hasPrefix (kbytes b) (kbytes a) = true ↔ ∃ c, b = a ++ c := by
  constructor
  · intro h
    have h' : (kbytes a) <+: (kbytes b) := List.isPrefixOf_iff_prefix.1 h
    obtain ⟨t, ht⟩ := h'
    exact kb_begins a b t ha hb ht.symm
  · rintro ⟨c, rfl⟩
    rw [kb_append]
    exact List.isPrefixOf_iff_prefix.2 ⟨_, rfl⟩
theorem walk (A B : Option Addr) (ca cb : Nat) (la lb : List KPart) (hla : la.length ≤ 9223372036854775807) (hlb : lb.length ≤ 9223372036854775807) (w : World) (m : Int) (hm : w.cell? ⟨0, 0, none⟩ = some (.int .i64 m))
    (RA : PRow w A la) (RB : PRow w B lb) (oA : ∀ p ∈ la, p.ok ∧ p.s.size ≤ 9223372036854775807) (oB : ∀ p ∈ lb, p.ok ∧ p.s.size ≤ 9223372036854775807) :
    Calls Tryd.prog 4 #[.slice A la.length ca, .slice B lb.length cb] w fun e w' => e = .returned (.bool true) ∧ Below w.heap.size w w' := by
  have sA : ∀ p ∈ la, p.s.size ≤ 9223372036854775807 := fun p hp => (oA p hp).2
  have sB : ∀ p ∈ lb, p.s.size ≤ 9223372036854775807 := fun p hp => (oB p hp).2
  by_cases nA : Light la
  · by_cases nB : Light lb
    · have kA := light_len nA
      have kB := light_len nB
      obtain ⟨a, ea⟩ : ∃ a, a = la.map pplain := ⟨_, rfl⟩
      obtain ⟨b, eb⟩ : ∃ b, b = lb.map pplain := ⟨_, rfl⟩
      have ka : a.length ≤ 1000 := by rw [ea, List.length_map]; omega
      have kb : b.length ≤ 1000 := by rw [eb, List.length_map]; omega
      have facts : ∀ (l r : List KPart), r = l.map pplain → Light l → (∀ p ∈ l, p.ok ∧ p.s.size ≤ 9223372036854775807) → ∀ p ∈ r, (p.ok ∧ p.s.size ≤ 9223372036854775807) ∧ pplain p = p := fun l r hr hl ho p hp => by
        rw [hr] at hp
        obtain ⟨q, hq, rfl⟩ := List.mem_map.1 hp
        obtain ⟨i, hi, rfl⟩ := List.getElem_of_mem hq
        exact ⟨⟨pplain_ok (ho _ hq).1, pplain_size (hl.2 i hi)⟩, pplain_pplain _⟩
      have fA := facts la a ea nA oA
      have fB := facts lb b eb nB oB
      obtain ⟨X, E, mA⟩ : ∃ X E, mkGo [] a = (X, E) := ⟨_, _, rfl⟩
      obtain ⟨Y, F, mB⟩ : ∃ Y F, mkGo [] b = (Y, F) := ⟨_, _, rfl⟩
      by_cases hE : E = 0
      · by_cases hF : F = 0
        · have bA := mkGo_bytes a [] X (by rw [mA, hE])
          have bB := mkGo_bytes b [] Y (by rw [mB, hF])
          have eX : X = kbytes a := by rw [bA.1]; rfl
          have eY : Y = kbytes b := by rw [bB.1]; rfl
          have gA : ∀ p ∈ a, p.ok ∧ (pbytes p).2 = 0 ∧ pplain p = p := fun p hp => ⟨(fA p hp).1.1, bA.2 p hp, (fA p hp).2⟩
          have gB : ∀ p ∈ b, p.ok ∧ (pbytes p).2 = 0 ∧ pplain p = p := fun p hp => ⟨(fB p hp).1.1, bB.2 p hp, (fB p hp).2⟩
          have e1 : Op.bytesLess X Y = pless a b := by rw [eX, eY]; exact bl_rows a b (fun p hp => ⟨(gA p hp).1, (gA p hp).2.1⟩) (fun p hp => ⟨(gB p hp).1, (gB p hp).2.1⟩)
          have h2 : (X == Y) = true ↔ a = b := by
            rw [eX, eY]
            constructor
            · intro h; exact kb_equal gA gB (by simpa using h)
            · rintro rfl; simp
          by_cases hab : a.length ≤ b.length
          · have h3 : Lib.hasPrefix Y X = true ↔ a = b.take a.length := by
              rw [eX, eY, begins_iff gA gB]
              constructor
              · rintro ⟨c, rfl⟩; simp
              · intro h; exact ⟨b.drop a.length, by rw [← List.take_append_drop a.length b, ← h]; simp⟩
            exact walk_less A B ca cb la lb a b hla hlb (by omega) (by omega) ka kb w m hm RA sA nA RB sB nB ea eb (fun p hp => (oA p hp).1) (fun p hp => (oB p hp).1) (fun p hp => (fA p hp).1) (fun p hp => (fB p hp).1) X Y E F mA mB hE hF (fun p hp => (gA p hp).1) (fun p hp => (gA p hp).2.2) _ _ h2 h3 hab e1 rfl rfl
          · have h3 : Lib.hasPrefix Y X = false := by
              cases hc : Lib.hasPrefix Y X
              · rfl
              · rw [eX, eY] at hc
                obtain ⟨c, rfl⟩ := (begins_iff gA gB).1 hc
                exact absurd (by simp) hab
            exact walk_longer A B ca cb la lb a b hla hlb (by omega) (by omega) ka kb w m hm RA sA nA RB sB nB ea eb (fun p hp => (oA p hp).1) (fun p hp => (oB p hp).1) (fun p hp => (fA p hp).1) (fun p hp => (fB p hp).1) X Y E F mA mB hE hF (fun p hp => (gA p hp).1) (fun p hp => (gA p hp).2.2) _ h2 (by omega) e1 rfl h3
        · exact walk_errB A B ca cb la lb a b hla hlb (by omega) (by omega) ka kb w m hm RA sA nA RB sB nB ea eb (fun p hp => (oA p hp).1) (fun p hp => (oB p hp).1) (fun p hp => (fA p hp).1) (fun p hp => (fB p hp).1) X Y E F mA mB hE (by simpa using hF)
      · exact walk_errA A B ca cb la lb a b hla hlb (by omega) (by omega) ka kb w m hm RA sA nA RB sB nB ea eb (fun p hp => (oA p hp).1) (fun p hp => (oB p hp).1) (fun p hp => (fA p hp).1) (fun p hp => (fB p hp).1) X Y E F mA mB (by simpa using hE)
    · exact walk_second A B ca cb la lb hla hlb w m hm RA sA nA RB sB nB
  · exact walk_first A B ca cb la lb hla hlb w m hm RA sA nA

set_option maxRecDepth 100000 in
theorem contract (H : Type) (enc : TypeId × Value → H) (W : World) (base : Nat) (args : Array Value) (ds gs : List (DataW H)) (before : List MemPlace)
    (hval : ∀ (j : Nat) t v, Tryd.f4.params[j]? = some t → args[j]? = some v → Value.okWide Tryd.prog W .any base t v)
    (hW : DataW.Whole enc Tryd.prog Tryd.f4.params.toList Rows.keyKeepsSpec.vars false W args.toList ds gs before) (hsh : W.ShapedOpen Tryd.prog) :
    Calls Tryd.prog 4 args W fun e W' => ∃ v, e = .returned v ∧ Rows.keyKeepsSpec.post enc Tryd.prog Tryd.f4 false true false false W args v W' := by
  have hW' := hW
  obtain ⟨p, q, hA0, hV, rfl, hfz, hnd⟩ := hW
  have hA : DataW.TrodAll enc Tryd.prog W 0 (fun _ => true) true Tryd.f4.params.toList args.toList ds p := hA0
  rw [Tryd.params4] at hA hval
  obtain ⟨v0, vs0, d0, ds0, p0, q0, hargs, rfl, rfl, h0, r0⟩ := trodAll_cons hA
  obtain ⟨v1, vs1, d1, ds1, p1, q1, rfl, rfl, rfl, h1, r1⟩ := trodAll_cons r0
  obtain ⟨rfl, rfl, rfl⟩ := trodAll_nil r1
  obtain rfl : args = #[v0, v1] := by cases args; simp_all
  obtain ⟨ao, len, cap, rfl⟩ := okWide_slice Tryd.underlying22 (hval 0 22 v0 rfl rfl)
  obtain ⟨bo, lem, caq, rfl⟩ := okWide_slice Tryd.underlying22 (hval 1 22 v1 rfl rfl)
  obtain ⟨m, hm⟩ := maxLen_cell hsh
  have main : Calls Tryd.prog 4 #[.slice ao len cap, .slice bo lem caq] W fun e w' => e = .returned (.bool true) ∧ Below W.heap.size W w' := by
    obtain ⟨fuel, hf⟩ := h0
    obtain ⟨fuel2, hf2⟩ := h1
    obtain ⟨la, rfl, RA, hla, oA⟩ := open_parts (by exact hf)
    obtain ⟨lb, rfl, RB, hlb, oB⟩ := open_parts (by exact hf2)
    exact walk ao bo cap caq la lb hla hlb W m hm RA RB oA oB
  refine main.mono fun e W' ⟨he, hb⟩ => ?_
  exact ⟨_, he, post_law hW' rfl rfl rfl (by rw [Tryd.params4]; decide +kernel) hb⟩

set_option maxRecDepth 100000 in
theorem lifted (os : Os) (started : os.Started) (H : Type) (enc : TypeId × Value → H) (F : Stop.Interp) :
    ReturnsInHanded {} Tryd.checked os 4 .any ((OpenSpec.ofChange Rows.keyKeepsSpec).preRow enc Tryd.prog Tryd.f4 Rows.keyKeepsRow.domain false Rows.keyKeepsRow.laid) (((OpenSpec.ofChange Rows.keyKeepsSpec).at F).post enc Tryd.prog Tryd.f4 false true false false) := by
  refine returnsInHanded_of_row (C := Tryd.checked) (s := OpenSpec.ofChange Rows.keyKeepsSpec) own started (by kernel_rfl) Tryd.func4
    (ChangeSpec.witness_shaped (enc := enc) (C := Tryd.checked) (os := os) (X := fun w _ => laidMetH Tryd.prog laids w) false (World.laidAll Tryd.prog os laids) #[.slice none 0 0, .slice none 0 0] 8 (World.laidAll_os _ _ _) (laid_shaped os _) (by kernel_rfl) (by kernel_rfl) (by kernel_rfl) (laid_met os _)) ?_
  intro W base args ds gs before hval hW _ _ _ _ hsh _
  exact contract H enc W base args ds gs before hval hW hsh
set_option maxRecDepth 100000 in
theorem said : Rows.KeyKeepsSaid :=
  OpenClaim.holds_of_cond 4 Tryd.f4 rfl rfl rfl rfl rfl rfl rfl ⟨rfl, rfl, rfl, rfl, rfl⟩ rfl rfl rfl rfl rfl (by kernel_rfl) Tryd.func4 (by kernel_rfl)
    (of_decide_eq_true (by kernel_rfl)) (by unfold Func.isWrapper; first | (rw [if_pos (by decide +kernel)]; kernel_rfl) | (rw [if_neg (by decide +kernel)]; exact ⟨rfl, rfl⟩))
    (fun os started H enc _ F => by rw [OpenClaim.pre_eq_preRow]; exact lifted os started H enc F)
set_option maxRecDepth 100000 in
theorem plain (f : FuncId) (fn : Func) (hf : Tryd.pinned.checked.prog.funcNamed Rows.keyKeepsRow.func = some f) (hfn : Tryd.pinned.checked.prog.funcs[f]? = some fn) :
    false = Tryd.pinned.checked.prog.looks [] ∧ ∀ (j : Nat) t, fn.params[j]? = some t → Tryd.pinned.checked.prog.wantsStandIn t = false := by
  obtain rfl : f = 4 := Option.some.inj ((show Tryd.prog.funcNamed Rows.keyKeepsRow.func = some 4 by kernel_rfl).symm.trans hf) |>.symm
  obtain rfl : fn = Tryd.f4 := (Option.some.inj (Tryd.func4.symm.trans hfn)).symm
  refine ⟨by kernel_rfl, fun j t ht => ?_⟩
  rw [Tryd.params4] at ht
  have hm : t ∈ [22, 22] := by simpa using Array.mem_of_getElem? ht
  have hall : ([22, 22].all fun u => !Tryd.prog.wantsStandIn u) = true := by kernel_rfl
  exact (show Tryd.prog.wantsStandIn t = false by simpa using List.all_eq_true.1 hall t hm)
set_option maxRecDepth 100000 in
theorem proved : Rows.KeyKeepsCardSaid :=
  Claim7.holds_tied_plain_at .later [] _ _ _ _ said (fun _ h => by cases h) (by kernel_rfl) (fun _ h => by cases h) keyKeeps_row_tie rfl ⟨rfl, rfl⟩ (by kernel_rfl) rfl plain (by kernel_rfl)
#print axioms proved
end Go.Proofs.YtlpobkgmpegfjaaDoor.keyKeeps
