/-
  The law OrderBack returns true at every input. No condition.
-/
import Derived.Test.YtckkabiafikjfaaOrL
import Derived.Test.YtckkabiafikjfaaOrO
namespace Go.Proofs.Ytckkabiafikjfaa.orderBack
open Go.ChangeShapes Go.WideShapes Go.ChangeAt Go.RowKit
open Go.ChangeMaps (open_string)
open Go.Proofs.Ytckkabiafikjfaa
open Am Vi Odx

theorem ob_len {o : Odr} (h : o.ok) : (ob o).length ≤ 80 := by
  have z1 := vnum_len10 h.account
  have z2 := vnum_len10 (u64_lt o.side)
  have z3 := vnum_len10 (zig_lt h.price.1 h.price.2)
  have z4 := vnum_len10 (zig_lt h.size.1 h.size.2)
  have z5 := vnum_len10 (zig_lt h.left.1 h.left.2)
  have z6 := vnum_len10 h.rank
  have z7 := vnum_len10 h.expiry
  have z8 := vnum_len10 (u64_lt o.state)
  unfold ob
  simp only [List.length_append]
  omega
theorem mb_len {b : Bal} (h : b.ok) : (mb b).length ≤ 20 := by
  have z1 := vnum_len10 (zig_lt h.free.1 h.free.2)
  have z2 := vnum_len10 (zig_lt h.held.1 h.held.2)
  unfold mb
  simp only [List.length_append]
  omega
theorem walk (o : Odr) (ho : o.ok) (b : Bal) (hb : b.ok) (s : ByteArray) (hsm : s.size ≤ maxLen) (w : World) :
    Calls Try.prog 3 #[.agg o.cells, .agg b.cells, .string s] w fun e w' => e = .returned (.bool true) ∧ Below w.heap.size w w' := by
  by_cases hs : s.size ≤ 500
  · have cBy := Lib.hid (bytes_any o ho)
    have cPa := Lib.hid (parse_any o.id (bs (ob o)) (by rw [bs_size]; have := ob_len ho; omega))
    have cCk := Lib.hid (check_any o)
    have h1 : Hid (chkO o = 0 → (parseO o.id (bs (ob o)).data.toList).1 = o ∧ (parseO o.id (bs (ob o)).data.toList).2 = 0) := fun h => by rw [bs_toList, parse_ob ho h]; exact ⟨rfl, rfl⟩
    have cMo := Lib.hid (money_any b hb)
    have cPm := Lib.hid (parseMoney_any (bs (mb b)) (by rw [bs_size]; have := mb_len hb; omega))
    have cFi := Lib.hid (fits_any b hb)
    have h2 : Hid (fitI b = 0 → (parseB (bs (mb b)).data.toList).1 = b ∧ (parseB (bs (mb b)).data.toList).2 = 0) := fun h => by rw [bs_toList, parse_mb hb h]; exact ⟨rfl, rfl⟩
    have cP3 := Lib.hid (parse_any 7 s (by omega))
    have cP4 := Lib.hid (parseMoney_any s (by omega))
    have ok3 := parseO_ok (id := 7) (by decide) s.data.toList
    have ok4 := parseB_ok s.data.toList
    have h3 : Hid ((parseO 7 s.data.toList).2 = 0 → (∀ W : World, Calls Try.prog 7 #[.agg (parseO 7 s.data.toList).1.cells] W (Ans W (.string s))) ∧ (∀ W : World, Calls Try.prog 8 #[.agg (parseO 7 s.data.toList).1.cells] W (Ans W (.int .i64 0)))) := fun h => by
      obtain ⟨e1, e2⟩ := ob_parse h
      refine ⟨fun W => ?_, fun W => ?_⟩
      · have := bytes_any (parseO 7 s.data.toList).1 ok3 W
        rwa [e1, bs_of] at this
      · have := check_any (parseO 7 s.data.toList).1 W
        rwa [e2] at this
    have h4 : Hid ((parseB s.data.toList).2 = 0 → ∀ W : World, Calls Try.prog 10 #[.agg (parseB s.data.toList).1.cells] W (Ans W (.string s))) := fun h W => by
      have := money_any (parseB s.data.toList).1 ok4 W
      rwa [mb_parse h, bs_of] at this
    clear ok3 ok4 ho hb
    generalize parseO o.id (bs (ob o)).data.toList = R1 at *
    generalize parseB (bs (mb b)).data.toList = R2 at *
    generalize parseO 7 s.data.toList = R3 at *
    generalize parseB s.data.toList = R4 at *
    generalize chkO o = z at *
    generalize fitI b = y at *
    obtain ⟨o0, o1, o2, o3, o4, o5, o6, o7, o8⟩ := o
    obtain ⟨b0, b1⟩ := b
    obtain ⟨⟨x0, x1, x2, x3, x4, x5, x6, x7, x8⟩, e1⟩ := R1
    obtain ⟨⟨m0, m1⟩, f2⟩ := R2
    obtain ⟨⟨t0, t1, t2, t3, t4, t5, t6, t7, t8⟩, e3⟩ := R3
    obtain ⟨⟨n0, n1⟩, f4⟩ := R4
    exact back_main _ _ _ _ _ _ _ _ _ _ _ _ _ _ _ _ _ _ _ _ _ _ _ _ _ _ _ _ _ _ _ _ _ s _ _ z e1 y f2 e3 f4 w hs cBy cPa cCk h1 cMo cPm cFi h2 cP3 cP4 h3 h4
  · have hb2 : s.size ≤ 9223372036854775807 := hsm
    unfold Odr.cells Bal.cells
    go_enter Try.func3, Try.ntmps3
    go_wp2_with (go_at_call 5; (with_reducible refine (awake20_any _).mono ?_); rintro e w1 ⟨rfl, b1⟩)
    go_ret
    exact ⟨rfl, ((alloc_below w _).alloc (by simp) _).trans (b1.mono (by simp; omega))⟩

set_option maxRecDepth 100000 in
theorem lifted (os : Os) (started : os.Started) (H : Type) (enc : TypeId × Value → H) :
    ReturnsInHanded {} Try.checked os 3 .any (Rows.orderBackSpec.pre6 enc Try.prog Try.f3 Rows.orderBackRow.domain false) (Rows.orderBackSpec.post enc Try.prog Try.f3 false true false false) := by
  refine returnsInHanded_of_change (C := Try.checked) own started (by kernel_rfl) Try.func3
    (ChangeSpec.witness6 (enc := enc) (C := Try.checked) false ⟨#[], #[.agg #[.int .u64 0, .int .u64 0, .int .i64 0, .int .i64 0, .int .i64 0, .int .i64 0, .int .u64 0, .int .u64 0, .int .i64 0], .agg #[.int .i64 0, .int .i64 0], .string .empty], []⟩ 8 (by kernel_rfl) (by kernel_rfl) (by kernel_rfl) (by kernel_rfl)) ?_
  intro W base args ds gs before hval0 hW hcnd _
  have hval : ∀ (j : Nat) t v, Try.f3.params[j]? = some t → args[j]? = some v → Value.okWide Try.prog W .any base t v := hval0
  have hW' := hW
  obtain ⟨p, q, hA0, hV, rfl, hfz, hnd⟩ := hW
  have hA : DataW.TrodAll enc Try.prog W 0 (fun _ => true) true Try.f3.params.toList args.toList ds p := hA0
  rw [Try.params3] at hA hval
  obtain ⟨v0, vs0, d0, ds0, p0, q0, hargs, rfl, rfl, h0, r0⟩ := trodAll_cons hA
  obtain ⟨v1, vs1, d1, ds1, p1, q1, rfl, rfl, rfl, h1, r1⟩ := trodAll_cons r0
  obtain ⟨v2, vs2, d2, ds2, p2, q2, rfl, rfl, rfl, h2, r2⟩ := trodAll_cons r1
  obtain ⟨rfl, rfl, rfl⟩ := trodAll_nil r2
  obtain rfl : args = #[v0, v1, v2] := by cases args; simp_all
  obtain ⟨o, rfl, ho⟩ := open_order (hval 0 24 v0 rfl rfl) h0
  obtain ⟨b, rfl, hob⟩ := open_balance (hval 1 26 v1 rfl rfl) h1
  obtain ⟨s2, rfl, rfl, rfl, m2⟩ := open_string Try.underlying9 (hval 2 9 v2 rfl rfl) h2
  refine (walk o ho b hob s2 m2 W).mono fun e W' ⟨he, hb⟩ => ?_
  exact ⟨_, he, post_law hW' rfl rfl rfl (by rw [Try.params3]; decide +kernel) hb⟩

theorem proved : Rows.OrderBackSaid :=
  OpenClaim.holds_of_wide 3 Try.f3 rfl rfl rfl rfl rfl rfl rfl ⟨rfl, rfl, rfl, rfl, rfl⟩ rfl rfl rfl rfl rfl (by kernel_rfl) Try.func3 (by kernel_rfl)
    (of_decide_eq_true (by kernel_rfl)) (by unfold Func.isWrapper; first | (rw [if_pos (by decide +kernel)]; kernel_rfl) | (rw [if_neg (by decide +kernel)]; exact ⟨rfl, rfl⟩))
    (fun os started H enc _ => lifted os started H enc)
#print axioms proved
end Go.Proofs.Ytckkabiafikjfaa.orderBack
