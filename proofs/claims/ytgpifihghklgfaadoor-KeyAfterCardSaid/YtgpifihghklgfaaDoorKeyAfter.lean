/-
  The law KeyAfter returns true at every input. No condition.
-/
import Derived.Test.YtgpifihghklgfaaDoorKyOrd
import Derived.Test.YtgpifihghklgfaaDoorKyCard
namespace Go.Proofs.YtgpifihghklgfaaDoor.keyAfter
open Go.ChangeShapes Go.WideShapes Go.ChangeAt Go.RowKit
open Go.ChangeMaps (open_string)
open Go.Proofs.YtgpifihghklgfaaDoor
open Vi

set_option maxHeartbeats 1000000 in
theorem walk_no_in (P S T A : List UInt8) (hp : P.length ≤ 300) (hs : S.length ≤ 300) (ht : T.length ≤ 300) (w : World) (m : Int) (HM : Hid (w.cell? ⟨0, 0, none⟩ = some (.int .i64 m)))
    (cAf : Hid (∀ W : World, Calls Tryd.prog 14 #[.string (bs P)] W fun e w' => e = .returned (.tuple #[.string (bs A), .bool false]) ∧ Below W.heap.size W w')) (e1 : Op.bytesLess T P = false) (e2 : Op.bytesLess (P ++ S) P = false) (e3 : Lib.hasPrefix T P = true) :
    Calls Tryd.prog 6 #[.string (bs P), .string (bs S), .string (bs T)] w fun e w' => e = .returned (.bool true) ∧ Below w.heap.size w w' := by
  have hbl := bs_list
  have hbz := bs_size
  have hba := bs_append
  have hbd := bs_toList
  go_enter Tryd.func6, Tryd.ntmps6
  go_wp2_with (first
    | (go_at_call 7; refine (awake_any _ m HM.out).mono ?_; rintro e w1 ⟨rfl, hb⟩)
    | (go_at_call 14; refine (cAf.out _).mono ?_; rintro e w2 ⟨rfl, hb2⟩)
    | (go_at_call 20; refine (Tryd.strings_HasPrefix _ _ _).mono ?_; rintro e w3 ⟨rfl, rfl⟩))
  go_ret
  exact ⟨rfl, hb.trans (hb2.mono hb.size)⟩
set_option maxHeartbeats 1000000 in
theorem walk_no_out (P S T A : List UInt8) (hp : P.length ≤ 300) (hs : S.length ≤ 300) (ht : T.length ≤ 300) (w : World) (m : Int) (HM : Hid (w.cell? ⟨0, 0, none⟩ = some (.int .i64 m)))
    (cAf : Hid (∀ W : World, Calls Tryd.prog 14 #[.string (bs P)] W fun e w' => e = .returned (.tuple #[.string (bs A), .bool false]) ∧ Below W.heap.size W w')) (e1 : Op.bytesLess T P = true) (e2 : Op.bytesLess (P ++ S) P = false) (e3 : Lib.hasPrefix T P = false) :
    Calls Tryd.prog 6 #[.string (bs P), .string (bs S), .string (bs T)] w fun e w' => e = .returned (.bool true) ∧ Below w.heap.size w w' := by
  have hbl := bs_list
  have hbz := bs_size
  have hba := bs_append
  have hbd := bs_toList
  go_enter Tryd.func6, Tryd.ntmps6
  go_wp2_with (first
    | (go_at_call 7; refine (awake_any _ m HM.out).mono ?_; rintro e w1 ⟨rfl, hb⟩)
    | (go_at_call 14; refine (cAf.out _).mono ?_; rintro e w2 ⟨rfl, hb2⟩)
    | (go_at_call 20; refine (Tryd.strings_HasPrefix _ _ _).mono ?_; rintro e w3 ⟨rfl, rfl⟩))
  go_ret
  exact ⟨rfl, hb.trans (hb2.mono hb.size)⟩
set_option maxHeartbeats 1000000 in
theorem walk_yes_out (P S T A : List UInt8) (hp : P.length ≤ 300) (hs : S.length ≤ 300) (ht : T.length ≤ 300) (w : World) (m : Int) (HM : Hid (w.cell? ⟨0, 0, none⟩ = some (.int .i64 m)))
    (cAf : Hid (∀ W : World, Calls Tryd.prog 14 #[.string (bs P)] W fun e w' => e = .returned (.tuple #[.string (bs A), .bool true]) ∧ Below W.heap.size W w')) (e1 : Op.bytesLess T P = true) (e2 : Op.bytesLess (P ++ S) P = false) (e4 : Op.bytesLess (P ++ S) A = true) (e3 : Lib.hasPrefix T P = false) :
    Calls Tryd.prog 6 #[.string (bs P), .string (bs S), .string (bs T)] w fun e w' => e = .returned (.bool true) ∧ Below w.heap.size w w' := by
  have hbl := bs_list
  have hbz := bs_size
  have hba := bs_append
  have hbd := bs_toList
  go_enter Tryd.func6, Tryd.ntmps6
  go_wp2_with (first
    | (go_at_call 7; refine (awake_any _ m HM.out).mono ?_; rintro e w1 ⟨rfl, hb⟩)
    | (go_at_call 14; refine (cAf.out _).mono ?_; rintro e w2 ⟨rfl, hb2⟩)
    | (go_at_call 20; refine (Tryd.strings_HasPrefix _ _ _).mono ?_; rintro e w3 ⟨rfl, rfl⟩))
  go_ret
  exact ⟨rfl, hb.trans (hb2.mono hb.size)⟩
set_option maxHeartbeats 1000000 in
theorem walk_yes_in (P S T A : List UInt8) (hp : P.length ≤ 300) (hs : S.length ≤ 300) (ht : T.length ≤ 300) (w : World) (m : Int) (HM : Hid (w.cell? ⟨0, 0, none⟩ = some (.int .i64 m)))
    (cAf : Hid (∀ W : World, Calls Tryd.prog 14 #[.string (bs P)] W fun e w' => e = .returned (.tuple #[.string (bs A), .bool true]) ∧ Below W.heap.size W w')) (e1 : Op.bytesLess T P = false) (e2 : Op.bytesLess (P ++ S) P = false) (e4 : Op.bytesLess (P ++ S) A = true) (e5 : Op.bytesLess T A = true) (e3 : Lib.hasPrefix T P = true) :
    Calls Tryd.prog 6 #[.string (bs P), .string (bs S), .string (bs T)] w fun e w' => e = .returned (.bool true) ∧ Below w.heap.size w w' := by
  have hbl := bs_list
  have hbz := bs_size
  have hba := bs_append
  have hbd := bs_toList
  go_enter Tryd.func6, Tryd.ntmps6
  go_wp2_with (first
    | (go_at_call 7; refine (awake_any _ m HM.out).mono ?_; rintro e w1 ⟨rfl, hb⟩)
    | (go_at_call 14; refine (cAf.out _).mono ?_; rintro e w2 ⟨rfl, hb2⟩)
    | (go_at_call 20; refine (Tryd.strings_HasPrefix _ _ _).mono ?_; rintro e w3 ⟨rfl, rfl⟩))
  go_ret
  exact ⟨rfl, hb.trans (hb2.mono hb.size)⟩
set_option maxHeartbeats 1000000 in
theorem walk_yes_far (P S T A : List UInt8) (hp : P.length ≤ 300) (hs : S.length ≤ 300) (ht : T.length ≤ 300) (w : World) (m : Int) (HM : Hid (w.cell? ⟨0, 0, none⟩ = some (.int .i64 m)))
    (cAf : Hid (∀ W : World, Calls Tryd.prog 14 #[.string (bs P)] W fun e w' => e = .returned (.tuple #[.string (bs A), .bool true]) ∧ Below W.heap.size W w')) (e1 : Op.bytesLess T P = false) (e2 : Op.bytesLess (P ++ S) P = false) (e4 : Op.bytesLess (P ++ S) A = true) (e5 : Op.bytesLess T A = false) (e3 : Lib.hasPrefix T P = false) :
    Calls Tryd.prog 6 #[.string (bs P), .string (bs S), .string (bs T)] w fun e w' => e = .returned (.bool true) ∧ Below w.heap.size w w' := by
  have hbl := bs_list
  have hbz := bs_size
  have hba := bs_append
  have hbd := bs_toList
  go_enter Tryd.func6, Tryd.ntmps6
  go_wp2_with (first
    | (go_at_call 7; refine (awake_any _ m HM.out).mono ?_; rintro e w1 ⟨rfl, hb⟩)
    | (go_at_call 14; refine (cAf.out _).mono ?_; rintro e w2 ⟨rfl, hb2⟩)
    | (go_at_call 20; refine (Tryd.strings_HasPrefix _ _ _).mono ?_; rintro e w3 ⟨rfl, rfl⟩))
  go_ret
  exact ⟨rfl, hb.trans (hb2.mono hb.size)⟩
theorem walk_long (p s t : ByteArray) (hpm : p.size ≤ 9223372036854775807) (hsm : s.size ≤ 9223372036854775807) (htm : t.size ≤ 9223372036854775807) (h : 300 < p.size ∨ (p.size ≤ 300 ∧ 300 < s.size) ∨ (p.size ≤ 300 ∧ s.size ≤ 300 ∧ 300 < t.size)) (w : World) (m : Int) (hm : w.cell? ⟨0, 0, none⟩ = some (.int .i64 m)) :
    Calls Tryd.prog 6 #[.string p, .string s, .string t] w fun e w' => e = .returned (.bool true) ∧ Below w.heap.size w w' := by
  have HM := Lib.hid hm
  clear hm
  rcases h with h | ⟨h1, h⟩ | ⟨h1, h2, h⟩
  all_goals
    go_enter Tryd.func6, Tryd.ntmps6
    go_wp2_with (go_at_call 7; refine (awake_any _ m HM.out).mono ?_; rintro e w1 ⟨rfl, hb⟩)
    go_ret
    exact ⟨rfl, hb⟩
theorem all_255 {p : ByteArray} (h : ∀ i (hi : i < p.size), p[i].toNat = 255) : ∀ c ∈ p.data.toList, c.toNat = 255 := fun c hc => by
  obtain ⟨i, hi, rfl⟩ := List.getElem_of_mem hc
  exact h i hi
theorem split_at (p : ByteArray) (k : Nat) (hk : k < p.size) : p.data.toList = p.data.toList.take k ++ p[k] :: p.data.toList.drop (k + 1) := by
  rw [← drop_at p k hk, List.take_append_drop]
theorem rest_255 {p : ByteArray} {k : Nat} (h : ∀ i (hi : i < p.size), k < i → p[i].toNat = 255) : ∀ c ∈ p.data.toList.drop (k + 1), c.toNat = 255 := fun c hc => by
  obtain ⟨i, hi, rfl⟩ := List.getElem_of_mem hc
  rw [List.getElem_drop]
  exact h (k + 1 + i) (by rw [List.length_drop, size_len] at hi; omega) (by omega)
theorem walk (p s t : ByteArray) (hpm : p.size ≤ maxLen) (hsm : s.size ≤ maxLen) (htm : t.size ≤ maxLen) (w : World) (m : Int) (hm : w.cell? ⟨0, 0, none⟩ = some (.int .i64 m)) :
    Calls Tryd.prog 6 #[.string p, .string s, .string t] w fun e w' => e = .returned (.bool true) ∧ Below w.heap.size w w' := by
  by_cases hp : p.size ≤ 300
  · by_cases hs : s.size ≤ 300
    · by_cases ht : t.size ≤ 300
      · have main : Calls Tryd.prog 6 #[.string (bs p.data.toList), .string (bs s.data.toList), .string (bs t.data.toList)] w fun e w' => e = .returned (.bool true) ∧ Below w.heap.size w w' := by
          have e2 := bl_app p.data.toList s.data.toList
          rcases last_below p with h | ⟨k, hk, hc, h⟩
          · have cA : ∀ W : World, Calls Tryd.prog 14 #[.string (bs p.data.toList)] W fun e w' => e = .returned (.tuple #[.string (bs []), .bool false]) ∧ Below W.heap.size W w' := fun W => by
              rw [bs_of]; exact after_none p (by omega) h W
            have e := after_l1 p.data.toList t.data.toList (all_255 h)
            cases e1 : Op.bytesLess t.data.toList p.data.toList
            · rw [e1] at e
              exact walk_no_in _ _ _ [] hp hs ht w m hm cA e1 e2 e.symm
            · rw [e1] at e
              exact walk_no_out _ _ _ [] hp hs ht w m hm cA e1 e2 e.symm
          · have cA : ∀ W : World, Calls Tryd.prog 14 #[.string (bs p.data.toList)] W fun e w' => e = .returned (.tuple #[.string (bs (p.data.toList.take k ++ [UInt8.ofNat (p[k].toNat + 1)])), .bool true]) ∧ Below W.heap.size W w' := fun W => by
              rw [bs_of]; exact after_some p (by omega) k hk hc h W
            have hd : (UInt8.ofNat (p[k].toNat + 1)).toNat = p[k].toNat + 1 := toNat_of (by omega)
            have e := after_l2 p[k] _ hd _ (rest_255 h) (p.data.toList.take k)
            rw [← split_at p k hk] at e
            have e4 := e (p.data.toList ++ s.data.toList)
            rw [pre_app, e2] at e4
            have e4' : Op.bytesLess (p.data.toList ++ s.data.toList) (p.data.toList.take k ++ [UInt8.ofNat (p[k].toNat + 1)]) = true := by simpa using e4
            have e' := e t.data.toList
            cases e1 : Op.bytesLess t.data.toList p.data.toList
            · rw [e1] at e'
              cases e5 : Op.bytesLess t.data.toList (p.data.toList.take k ++ [UInt8.ofNat (p[k].toNat + 1)])
              · rw [e5] at e'
                exact walk_yes_far _ _ _ _ hp hs ht w m hm cA e1 e2 e4' e5 e'.symm
              · rw [e5] at e'
                exact walk_yes_in _ _ _ _ hp hs ht w m hm cA e1 e2 e4' e5 e'.symm
            · rw [e1] at e'
              exact walk_yes_out _ _ _ _ hp hs ht w m hm cA e1 e2 e4' e'.symm
        rw [bs_of, bs_of, bs_of] at main
        exact main
      · exact walk_long p s t hpm hsm htm (.inr (.inr ⟨hp, hs, by omega⟩)) w m hm
    · exact walk_long p s t hpm hsm htm (.inr (.inl ⟨hp, by omega⟩)) w m hm
  · exact walk_long p s t hpm hsm htm (.inl (by omega)) w m hm

set_option maxRecDepth 100000 in
theorem contract (H : Type) (enc : TypeId × Value → H) (W : World) (base : Nat) (args : Array Value) (ds gs : List (DataW H)) (before : List MemPlace)
    (hval : ∀ (j : Nat) t v, Tryd.f6.params[j]? = some t → args[j]? = some v → Value.okWide Tryd.prog W .any base t v)
    (hW : DataW.Whole enc Tryd.prog Tryd.f6.params.toList Rows.keyAfterSpec.vars false W args.toList ds gs before) (hsh : W.ShapedOpen Tryd.prog) :
    Calls Tryd.prog 6 args W fun e W' => ∃ v, e = .returned v ∧ Rows.keyAfterSpec.post enc Tryd.prog Tryd.f6 false true false false W args v W' := by
  have hW' := hW
  obtain ⟨p, q, hA0, hV, rfl, hfz, hnd⟩ := hW
  have hA : DataW.TrodAll enc Tryd.prog W 0 (fun _ => true) true Tryd.f6.params.toList args.toList ds p := hA0
  rw [Tryd.params6] at hA hval
  obtain ⟨v0, vs0, d0, ds0, p0, q0, hargs, rfl, rfl, h0, r0⟩ := trodAll_cons hA
  obtain ⟨v1, vs1, d1, ds1, p1, q1, rfl, rfl, rfl, h1, r1⟩ := trodAll_cons r0
  obtain ⟨v2, vs2, d2, ds2, p2, q2, rfl, rfl, rfl, h2, r2⟩ := trodAll_cons r1
  obtain ⟨rfl, rfl, rfl⟩ := trodAll_nil r2
  obtain rfl : args = #[v0, v1, v2] := by cases args; simp_all
  obtain ⟨s0, rfl, rfl, rfl, m0⟩ := open_string Tryd.underlying9 (hval 0 9 v0 rfl rfl) h0
  obtain ⟨s1, rfl, rfl, rfl, m1⟩ := open_string Tryd.underlying9 (hval 1 9 v1 rfl rfl) h1
  obtain ⟨s2, rfl, rfl, rfl, m2⟩ := open_string Tryd.underlying9 (hval 2 9 v2 rfl rfl) h2
  obtain ⟨m, hm⟩ := maxLen_cell hsh
  refine (walk s0 s1 s2 m0 m1 m2 W m hm).mono fun e W' ⟨he, hb⟩ => ?_
  exact ⟨_, he, post_law hW' rfl rfl rfl (by rw [Tryd.params6]; decide +kernel) hb⟩

set_option maxRecDepth 100000 in
theorem lifted (os : Os) (started : os.Started) (H : Type) (enc : TypeId × Value → H) (F : Stop.Interp) :
    ReturnsInHanded {} Tryd.checked os 6 .any ((OpenSpec.ofChange Rows.keyAfterSpec).preRow enc Tryd.prog Tryd.f6 Rows.keyAfterRow.domain false Rows.keyAfterRow.laid) (((OpenSpec.ofChange Rows.keyAfterSpec).at F).post enc Tryd.prog Tryd.f6 false true false false) := by
  refine returnsInHanded_of_row (C := Tryd.checked) (s := OpenSpec.ofChange Rows.keyAfterSpec) own started (by kernel_rfl) Tryd.func6
    (ChangeSpec.witness_shaped (enc := enc) (C := Tryd.checked) (os := os) (X := fun w _ => laidMetH Tryd.prog laids w) false (World.laidAll Tryd.prog os laids) #[.string .empty, .string .empty, .string .empty] 8 (World.laidAll_os _ _ _) (laid_shaped os _) (by kernel_rfl) (by kernel_rfl) (by kernel_rfl) (laid_met os _)) ?_
  intro W base args ds gs before hval hW _ _ _ _ hsh _
  exact contract H enc W base args ds gs before hval hW hsh
set_option maxRecDepth 100000 in
theorem said : Rows.KeyAfterSaid :=
  OpenClaim.holds_of_cond 6 Tryd.f6 rfl rfl rfl rfl rfl rfl rfl ⟨rfl, rfl, rfl, rfl, rfl⟩ rfl rfl rfl rfl rfl (by kernel_rfl) Tryd.func6 (by kernel_rfl)
    (of_decide_eq_true (by kernel_rfl)) (by unfold Func.isWrapper; first | (rw [if_pos (by decide +kernel)]; kernel_rfl) | (rw [if_neg (by decide +kernel)]; exact ⟨rfl, rfl⟩))
    (fun os started H enc _ F => by rw [OpenClaim.pre_eq_preRow]; exact lifted os started H enc F)
set_option maxRecDepth 100000 in
theorem plain (f : FuncId) (fn : Func) (hf : Tryd.pinned.checked.prog.funcNamed Rows.keyAfterRow.func = some f) (hfn : Tryd.pinned.checked.prog.funcs[f]? = some fn) :
    false = Tryd.pinned.checked.prog.looks [] ∧ ∀ (j : Nat) t, fn.params[j]? = some t → Tryd.pinned.checked.prog.wantsStandIn t = false := by
  obtain rfl : f = 6 := Option.some.inj ((show Tryd.prog.funcNamed Rows.keyAfterRow.func = some 6 by kernel_rfl).symm.trans hf) |>.symm
  obtain rfl : fn = Tryd.f6 := (Option.some.inj (Tryd.func6.symm.trans hfn)).symm
  refine ⟨by kernel_rfl, fun j t ht => ?_⟩
  rw [Tryd.params6] at ht
  have hm : t ∈ [9, 9, 9] := by simpa using Array.mem_of_getElem? ht
  have hall : ([9, 9, 9].all fun u => !Tryd.prog.wantsStandIn u) = true := by kernel_rfl
  exact (show Tryd.prog.wantsStandIn t = false by simpa using List.all_eq_true.1 hall t hm)
set_option maxRecDepth 100000 in
theorem proved : Rows.KeyAfterCardSaid :=
  Claim7.holds_tied_plain_at .later [] _ _ _ _ said (fun _ h => by cases h) (by kernel_rfl) (fun _ h => by cases h) keyAfter_row_tie rfl ⟨rfl, rfl⟩ (by kernel_rfl) rfl plain (by kernel_rfl)
#print axioms proved
end Go.Proofs.YtgpifihghklgfaaDoor.keyAfter
