/-
  The law KeyMakes walked. Conditions: as each theorem states.
-/
import Derived.Test.YthablblbegmmaaaDoorKmD
import Derived.Test.YthablblbegmmaaaDoorKmG
import Derived.Test.YthablblbegmmaaaDoorKyAwake
import Derived.Test.YthablblbegmmaaaDoorKyOrd
namespace Go.Proofs.YthablblbegmmaaaDoor
open Go.RowKit
open Vi

theorem light_yes {w : World} (A : Option Addr) (c : Nat) (l : List KPart) (hl : l.length ≤ 9223372036854775807) (h : Light l) (ha : PRow w A l) (hs : ∀ p ∈ l, p.s.size ≤ 9223372036854775807) :
    Calls Tryd.prog 5 #[.slice A l.length c] w fun e w' => e = .returned (.bool true) ∧ Below w.heap.size w w' := by
  refine (light_any A c l hl ha hs).mono ?_
  rintro e w' ⟨h1 | h1, hb⟩
  · exact ⟨h1.1, hb⟩
  · exact absurd h h1.2
theorem light_no {w : World} (A : Option Addr) (c : Nat) (l : List KPart) (hl : l.length ≤ 9223372036854775807) (h : ¬ Light l) (ha : PRow w A l) (hs : ∀ p ∈ l, p.s.size ≤ 9223372036854775807) :
    Calls Tryd.prog 5 #[.slice A l.length c] w fun e w' => e = .returned (.bool false) ∧ Below w.heap.size w w' := by
  refine (light_any A c l hl ha hs).mono ?_
  rintro e w' ⟨h1 | h1, hb⟩
  · exact absurd h1.2 h
  · exact ⟨h1.1, hb⟩
theorem partsIn_len : ∀ (n : Nat) (l : List UInt8) (q : List KPart), partsIn n l = some q → q.length ≤ n
  | n, [], q, h => by
    have : q = [] := by cases n <;> (simp [partsIn] at h; exact h)
    subst this; simp
  | 0, _ :: _, q, h => by simp [partsIn] at h
  | n + 1, c :: l, q, h => by
    simp only [partsIn] at h
    cases hq : pfirst (c :: l) with
    | none => rw [hq] at h; cases h
    | some x =>
      rw [hq] at h
      simp only at h
      cases hr : partsIn n x.2 with
      | none => rw [hr] at h; cases h
      | some q2 =>
        rw [hr] at h
        have e : x.1 :: q2 = q := Option.some.inj h
        have := partsIn_len n x.2 q2 hr
        rw [← e, List.length_cons]; omega
def PsPost (q : List KPart) (err : Int) (w : World) (e : Ending) (w' : World) : Prop := ∃ A c, e = .returned (.tuple #[.slice A q.length c, .int .i64 err]) ∧ PRow w' A q ∧ Below w.heap.size w w'
theorem prow_none (w : World) : PRow w none [] := fun h => by simp at h
theorem parts_both (K : List UInt8) (hK : K.length ≤ 1000) (m : Int) : ∃ (q : List KPart) (err : Int), q.length ≤ 1000 ∧
    (∀ W : World, W.cell? ⟨0, 0, none⟩ = some (.int .i64 m) → Calls Tryd.prog 9 #[.string (bs K)] W (PsPost q err W)) ∧ (∀ W : World, Calls Tryd.prog 10 #[.string (bs K)] W (PsPost q err W)) := by
  have bad : (200 < K.length ∨ pparts K = none) → ∃ (q : List KPart) (err : Int), q.length ≤ 1000 ∧
      (∀ W : World, W.cell? ⟨0, 0, none⟩ = some (.int .i64 m) → Calls Tryd.prog 9 #[.string (bs K)] W (PsPost q err W)) ∧ (∀ W : World, Calls Tryd.prog 10 #[.string (bs K)] W (PsPost q err W)) := fun h => by
    refine ⟨[], 19, by simp, fun W hm => (parts_any K hK m hm).mono ?_, fun W => (rparts_any K hK).mono ?_⟩
    · rintro e w' ⟨⟨v, a, h1, h2, h3, _⟩ | ⟨h1, _⟩, hb⟩
      · rcases h with h | h
        · omega
        · rw [h] at h3; cases h3
      · exact ⟨none, 0, h1, prow_none _, hb⟩
    · rintro e w' ⟨⟨v, a, h1, h2, h3, _⟩ | ⟨h1, _⟩, hb⟩
      · rcases h with h | h
        · omega
        · rw [h] at h3; cases h3
      · exact ⟨none, 0, h1, prow_none _, hb⟩
  by_cases h2 : 200 < K.length
  · exact bad (.inl h2)
  · cases hp : pparts K with
    | none => exact bad (.inr hp)
    | some q =>
      have hq := partsIn_len _ _ _ hp
      refine ⟨q, 0, by omega, fun W hm => (parts_any K hK m hm).mono ?_, fun W => (rparts_any K hK).mono ?_⟩
      · rintro e w' ⟨⟨v, a, h1, _, h3, h4⟩ | ⟨h1, h | h⟩, hb⟩
        · rw [hp] at h3
          have e : q = a := Option.some.inj h3
          subst e
          obtain ⟨A, c, rfl, hr⟩ := prow_of_owns h4
          exact ⟨A, c, h1, hr, hb⟩
        · omega
        · rw [hp] at h; cases h
      · rintro e w' ⟨⟨v, a, h1, _, h3, h4⟩ | ⟨h1, h | h⟩, hb⟩
        · rw [hp] at h3
          have e : q = a := Option.some.inj h3
          subst e
          obtain ⟨A, c, rfl, hr⟩ := rprow_of_owns h4
          exact ⟨A, c, h1, hr, hb⟩
        · omega
        · rw [hp] at h; cases h
theorem after_both (s : ByteArray) (hs : s.size ≤ 1000000) : ∃ (X : List UInt8) (o : Bool),
    (∀ W : World, Calls Tryd.prog 11 #[.string s] W fun e w' => e = .returned (.tuple #[.string (bs X), .bool o]) ∧ Below W.heap.size W w') ∧
    (∀ W : World, Calls Tryd.prog 12 #[.string s] W fun e w' => e = .returned (.tuple #[.string (bs X), .bool o]) ∧ Below W.heap.size W w') := by
  rcases last_below s with h | ⟨k, hk, hc, h⟩
  · exact ⟨[], false, fun W => after_none s hs h W, fun W => rafter_none s hs h W⟩
  · exact ⟨_, true, fun W => after_some s hs k hk hc h W, fun W => rafter_some s hs k hk hc h W⟩
theorem rneq_part (p : KPart) (w : World) : (binOp .neq 40 (.agg #[.int .u8 p.sort, .int .i64 p.n, .int .u64 p.u, .string p.s]) (.agg #[.int .u8 p.sort, .int .i64 p.n, .int .u64 p.u, .string p.s])).run Tryd.prog w = .ok (.bool false) w := by
  go_simp
def LqJ (w : World) (n : Nat) (i : Value) (wr : World) : Prop := ∃ j : Nat, j ≤ n ∧ i = .int .i64 j ∧ Below w.heap.size w wr
theorem ps_trans {w w1 w2 : World} (h : Below w.heap.size w w1) (h2 : Below w1.heap.size w1 w2) : Below w.heap.size w w2 := h.trans (h2.mono h.size)
def KmPost (w : World) (e : Ending) (w' : World) : Prop := e = .returned (.bool true) ∧ Below w.heap.size w w'
set_option maxRecDepth 100000 in
set_option maxHeartbeats 4000000 in
theorem makes_light {w : World} (A B : Option Addr) (ca cb : Nat) (la lb : List KPart) (s : ByteArray) (nA : Light la) (nB : Light lb) (kA : la.length ≤ 30) (kB : lb.length ≤ 30) (hs : s.size ≤ 300) (m : Int) (hm : w.cell? ⟨0, 0, none⟩ = some (.int .i64 m))
    (ra : PRow w A la) (rb : PRow w B lb) (oA : ∀ p ∈ la, p.ok ∧ p.s.size ≤ 9223372036854775807) (oB : ∀ p ∈ lb, p.ok ∧ p.s.size ≤ 9223372036854775807) (fA : ∀ p ∈ la, p.ok ∧ p.s.size ≤ 1000) :
    Calls Tryd.prog 3 #[.slice A la.length ca, .slice B lb.length cb, .string s] w (KmPost w) := by
  have hkl : (s.data.toList).length ≤ 1000 := by rw [size_len]; omega
  obtain ⟨q, err, hq, hP, hRP⟩ := parts_both s.data.toList hkl m
  rw [bs_of] at hP hRP
  obtain ⟨X, o, hAf, hRA⟩ := after_both s (by omega)
  have AW := Lib.hid fun (W : World) (h : Below w.heap.size w W) => awake_any W m (cell0_below hm h)
  have LA := Lib.hid fun (W : World) (h : Below w.heap.size w W) => light_yes A ca la (by omega) nA (ra.below h (Nat.le_refl _)) (fun p hp => (oA p hp).2)
  have LB := Lib.hid fun (W : World) (h : Below w.heap.size w W) => light_yes B cb lb (by omega) nB (rb.below h (Nat.le_refl _)) (fun p hp => (oB p hp).2)
  have MA := Lib.hid fun (W : World) (h : Below w.heap.size w W) => make_any A ca la (by omega) (ra.below h (Nat.le_refl _)) oA m (cell0_below hm h)
  have TA := Lib.hid fun (W : World) (h : Below w.heap.size w W) => rto_any A ca la (by omega) (ra.below h (Nat.le_refl _))
  have TB := Lib.hid fun (W : World) (h : Below w.heap.size w W) => rto_any B cb lb (by omega) (rb.below h (Nat.le_refl _))
  have RM := Lib.hid fun (W : World) (A5 : Option Addr) (c5 : Nat) (r : PRow W A5 la) => rmake_any A5 c5 la (by omega) r fA
  have PL := Lib.hid fun (W : World) (h : Below w.heap.size w W) => hP W (cell0_below hm h)
  have RP := Lib.hid hRP
  have AF := Lib.hid hAf
  have RAF := Lib.hid hRA
  have LS := Lib.hid fun (W : World) (h : Below w.heap.size w W) => less_any A B ca cb la lb (by omega) (by omega) (ra.below h (Nat.le_refl _)) (rb.below h (Nat.le_refl _))
  have RLS := Lib.hid fun (W : World) (A1 B1 : Option Addr) (c1 d1 : Nat) (r1 : PRow W A1 la) (r2 : PRow W B1 lb) => rless_any A1 B1 c1 d1 la lb (by omega) (by omega) r1 r2
  have e3 : decide (300 < (s.size : Int)) = false := decide_eq_false (by omega)
  clear hm ra rb oA oB fA nA nB hP hRP hAf hRA hkl
  generalize hmg : mkGo [] la = mg at *
  obtain ⟨K1, E1⟩ := mg
  generalize hpl : pless la lb = pl at *
  clear hmg hpl
  simp only at MA RM
  have hss : ((bs K1).toList == (bs K1).toList) = true := beq_self_eq_true _
  have hxx : ((bs X).toList == (bs X).toList) = true := beq_self_eq_true _
  have F0 := Lib.hid (Below.refl w.heap.size w)
  unfold PsPost RToPost at *
  go_enter Tryd.func3, Tryd.ntmps3
  go_wp2_with (first
    | (go_at_call 12; (with_reducible refine (RAF.out _).mono ?_); rintro e w10 ⟨rfl, b10⟩; have F10 := Lib.hid (ps_trans F9.out b10); have RL10 := Lib.hid (RL9.out.below b10 (Nat.le_refl _)); have RN10 := Lib.hid (RN9.out.below b10 (Nat.le_refl _)); clear b10)
    | (go_at_call 11; (with_reducible refine (AF.out _).mono ?_); rintro e w9 ⟨rfl, b9⟩; have F9 := Lib.hid (ps_trans F8.out b9); have RL9 := Lib.hid (RL8.out.below b9 (Nat.le_refl _)); have RN9 := Lib.hid (RN8.out.below b9 (Nat.le_refl _)); clear b9)
    | (go_at_call 10; (with_reducible refine (RP.out _).mono ?_); rintro e w8 ⟨A8, c8, rfl, r8, b8⟩; have F8 := Lib.hid (ps_trans F7.out b8); have RL8 := Lib.hid (RL7.out.below b8 (Nat.le_refl _)); have RN8 := Lib.hid r8; clear r8 b8)
    | (go_at_call 9; (with_reducible refine (PL.out _ F6.out).mono ?_); rintro e w7 ⟨A7, c7, rfl, r7, b7⟩; have F7 := Lib.hid (ps_trans F6.out b7); have RL7 := Lib.hid r7; clear r7 b7)
    | (go_at_call 7; (with_reducible refine (RM.out _ _ _ RT5.out).mono ?_); rintro e w6 ⟨rfl, b6⟩; have F6 := Lib.hid (ps_trans F5.out b6); clear b6)
    | (go_at_call 8; (with_reducible refine (TA.out _ F4.out).mono ?_); rintro e w5 ⟨A5, c5, rfl, r5, b5⟩; have F5 := Lib.hid (ps_trans F4.out b5); have RT5 := Lib.hid r5; clear r5 b5)
    | (go_at_call 6; (with_reducible refine (MA.out _ F3.out).mono ?_); rintro e w4 ⟨rfl, b4⟩; have F4 := Lib.hid (ps_trans F3.out b4); clear b4)
    | (go_at_call 5; have Z := F2; (with_reducible refine (LB.out _ F2.out).mono ?_); rintro e w3 ⟨rfl, b3⟩; have F3 := Lib.hid (ps_trans F2.out b3); clear b3)
    | (go_at_call 5; (with_reducible refine (LA.out _ F1.out).mono ?_); rintro e w2 ⟨rfl, b2⟩; have F2 := Lib.hid (ps_trans F1.out b2); clear b2)
    | (go_at_call 4; (with_reducible refine (AW.out _ F0.out).mono ?_); rintro e w1 ⟨rfl, b1⟩; have F1 := Lib.hid b1; clear b1))
  go_loopw [98] (LqJ w10 q.length) (fun i _ => q.length - (intOf i).toNat)
  case atStart => exact ⟨0, by omega, rfl, Below.refl _ _⟩
  case round =>
    obtain ⟨j, hj, rfl, hbw⟩ := hrel
    by_cases hlt : j < q.length
    · obtain ⟨a7, rfl, _, hc7⟩ := (RL10.out.below hbw (Nat.le_refl _)) (by omega)
      obtain ⟨x0, x1, x2, x3⟩ := hc7 j hlt
      obtain ⟨a8, rfl, _, hc8⟩ := (RN10.out.below hbw (Nat.le_refl _)) (by omega)
      obtain ⟨y0, y1, y2, y3⟩ := hc8 j hlt
      have hnp := rneq_part q[j]
      have HB := Lib.hid hbw
      clear hc7 hc8 hbw
      generalize q[j] = y at *
      go_wp2
      go_region
      all_goals
        go_wp2
        go_roundw
        case rel => exact ⟨j + 1, by omega, by go_num, by first | exact HB.out | exact HB.out.drew⟩
        case measure => simp [intOf]; omega
    · have F11 := Lib.hid (ps_trans F10.out hbw)
      clear hbw
      go_wp2_with (first
        | (go_at_call 14; have Z := F14; (with_reducible refine (RLS.out _ _ _ _ _ R14.out S14.out).mono ?_); rintro e w15 ⟨rfl, b15⟩; have F15 := Lib.hid (ps_trans F14.out b15); clear b15)
        | (go_at_call 8; have Z := F13; (with_reducible refine (TB.out _ F13.out).mono ?_); rintro e w14 ⟨A14, c14, rfl, r14, b14⟩; have F14 := Lib.hid (ps_trans F13.out b14); have R14 := Lib.hid (R13.out.below b14 (Nat.le_refl _)); have S14 := Lib.hid r14; clear r14 b14)
        | (go_at_call 8; have Z := F12; (with_reducible refine (TA.out _ F12.out).mono ?_); rintro e w13 ⟨A13, c13, rfl, r13, b13⟩; have F13 := Lib.hid (ps_trans F12.out b13); have R13 := Lib.hid r13; clear r13 b13)
        | (go_at_call 13; (with_reducible refine (LS.out _ F11.out).mono ?_); rintro e w12 ⟨rfl, b12⟩; have F12 := Lib.hid (ps_trans F11.out b12); clear b12))
      exact bodyPost_ret (v := .bool true) (by simp [results, Tryd.results3, go_sem]) rfl ⟨rfl, F15.out⟩
end Go.Proofs.YthablblbegmmaaaDoor
