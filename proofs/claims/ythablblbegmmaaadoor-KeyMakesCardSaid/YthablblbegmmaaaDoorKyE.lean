/-
  The Go text of which row of parts stands ahead, walked. Conditions: as each theorem states.
-/
import Derived.Test.YthablblbegmmaaaDoorKyNum
namespace Go.Proofs.YthablblbegmmaaaDoor
open Go.RowKit
open Vi

def cmpI (x y : Int) : Int := if x < y then -1 else if y < x then 1 else 0
theorem cmpI_lt {x y : Int} (h : x < y) : cmpI x y = -1 := if_pos h
theorem cmpI_gt {x y : Int} (h : y < x) : cmpI x y = 1 := by unfold cmpI; rw [if_neg (by omega), if_pos h]
theorem cmpI_eq {x y : Int} (h1 : ¬ x < y) (h2 : ¬ y < x) : cmpI x y = 0 := by unfold cmpI; rw [if_neg h1, if_neg h2]
theorem nan_u8 (x : Int) (w : World) : Calls Tryd.prog 44 #[.int .u8 x] w fun e w' => e = .returned (.bool false) ∧ w = w' := by
  go_enter Tryd.func44, Tryd.ntmps44
  go_wp2
  go_ret
  exact ⟨rfl, rfl⟩
theorem nan_i64 (x : Int) (w : World) : Calls Tryd.prog 45 #[.int .i64 x] w fun e w' => e = .returned (.bool false) ∧ w = w' := by
  go_enter Tryd.func45, Tryd.ntmps45
  go_wp2
  go_ret
  exact ⟨rfl, rfl⟩
theorem nan_u64 (x : Int) (w : World) : Calls Tryd.prog 46 #[.int .u64 x] w fun e w' => e = .returned (.bool false) ∧ w = w' := by
  go_enter Tryd.func46, Tryd.ntmps46
  go_wp2
  go_ret
  exact ⟨rfl, rfl⟩
theorem nan_str (s : ByteArray) (w : World) : Calls Tryd.prog 47 #[.string s] w fun e w' => e = .returned (.bool false) ∧ w = w' := by
  go_enter Tryd.func47, Tryd.ntmps47
  go_wp2
  go_ret
  exact ⟨rfl, rfl⟩
theorem cmp_u8 (x y : Int) (w : World) : Calls Tryd.prog 33 #[.int .u8 x, .int .u8 y] w fun e w' => e = .returned (.int .i64 (cmpI x y)) ∧ w = w' := by
  rcases Int.lt_trichotomy x y with h | h | h
  · rw [cmpI_lt h]
    go_enter Tryd.func33, Tryd.ntmps33
    go_wp2_with (go_at_call 44; refine (nan_u8 _ _).mono ?_; rintro e w' ⟨rfl, rfl⟩)
    go_ret
    exact ⟨rfl, rfl⟩
  · subst h
    rw [cmpI_eq (by omega) (by omega)]
    go_enter Tryd.func33, Tryd.ntmps33
    go_wp2_with (go_at_call 44; refine (nan_u8 _ _).mono ?_; rintro e w' ⟨rfl, rfl⟩)
    go_ret
    exact ⟨rfl, rfl⟩
  · rw [cmpI_gt h]
    go_enter Tryd.func33, Tryd.ntmps33
    go_wp2_with (go_at_call 44; refine (nan_u8 _ _).mono ?_; rintro e w' ⟨rfl, rfl⟩)
    go_ret
    exact ⟨rfl, rfl⟩
theorem cmp_i64 (x y : Int) (w : World) : Calls Tryd.prog 34 #[.int .i64 x, .int .i64 y] w fun e w' => e = .returned (.int .i64 (cmpI x y)) ∧ w = w' := by
  rcases Int.lt_trichotomy x y with h | h | h
  · rw [cmpI_lt h]
    go_enter Tryd.func34, Tryd.ntmps34
    go_wp2_with (go_at_call 45; refine (nan_i64 _ _).mono ?_; rintro e w' ⟨rfl, rfl⟩)
    go_ret
    exact ⟨rfl, rfl⟩
  · subst h
    rw [cmpI_eq (by omega) (by omega)]
    go_enter Tryd.func34, Tryd.ntmps34
    go_wp2_with (go_at_call 45; refine (nan_i64 _ _).mono ?_; rintro e w' ⟨rfl, rfl⟩)
    go_ret
    exact ⟨rfl, rfl⟩
  · rw [cmpI_gt h]
    go_enter Tryd.func34, Tryd.ntmps34
    go_wp2_with (go_at_call 45; refine (nan_i64 _ _).mono ?_; rintro e w' ⟨rfl, rfl⟩)
    go_ret
    exact ⟨rfl, rfl⟩
theorem cmp_u64 (x y : Int) (w : World) : Calls Tryd.prog 35 #[.int .u64 x, .int .u64 y] w fun e w' => e = .returned (.int .i64 (cmpI x y)) ∧ w = w' := by
  rcases Int.lt_trichotomy x y with h | h | h
  · rw [cmpI_lt h]
    go_enter Tryd.func35, Tryd.ntmps35
    go_wp2_with (go_at_call 46; refine (nan_u64 _ _).mono ?_; rintro e w' ⟨rfl, rfl⟩)
    go_ret
    exact ⟨rfl, rfl⟩
  · subst h
    rw [cmpI_eq (by omega) (by omega)]
    go_enter Tryd.func35, Tryd.ntmps35
    go_wp2_with (go_at_call 46; refine (nan_u64 _ _).mono ?_; rintro e w' ⟨rfl, rfl⟩)
    go_ret
    exact ⟨rfl, rfl⟩
  · rw [cmpI_gt h]
    go_enter Tryd.func35, Tryd.ntmps35
    go_wp2_with (go_at_call 46; refine (nan_u64 _ _).mono ?_; rintro e w' ⟨rfl, rfl⟩)
    go_ret
    exact ⟨rfl, rfl⟩

def cmpS (x y : List UInt8) : Int := if Op.bytesLess x y = true then -1 else if x = y then 0 else 1
theorem bl_irrefl : ∀ l : List UInt8, Op.bytesLess l l = false
  | [] => rfl
  | x :: l => by rw [bl_eq]; exact bl_irrefl l
theorem cmp_str (x y : List UInt8) (w : World) : Calls Tryd.prog 36 #[.string (bs x), .string (bs y)] w fun e w' => e = .returned (.int .i64 (cmpS x y)) ∧ w = w' := by
  have hbl := bs_list
  by_cases h : Op.bytesLess x y = true
  · rw [show cmpS x y = -1 from if_pos h]
    go_enter Tryd.func36, Tryd.ntmps36
    go_wp2_with (go_at_call 47; refine (nan_str _ _).mono ?_; rintro e w' ⟨rfl, rfl⟩)
    go_ret
    exact ⟨rfl, rfl⟩
  · have h' : Op.bytesLess x y = false := by simpa using h
    by_cases he : x = y
    · rw [show cmpS x y = 0 by unfold cmpS; rw [if_neg h, if_pos he]]
      subst he
      go_enter Tryd.func36, Tryd.ntmps36
      go_wp2_with (go_at_call 47; refine (nan_str _ _).mono ?_; rintro e w' ⟨rfl, rfl⟩)
      go_ret
      exact ⟨rfl, rfl⟩
    · rw [show cmpS x y = 1 by unfold cmpS; rw [if_neg h, if_neg he]]
      have he' : (x == y) = false := by simpa using he
      clear h he
      go_enter Tryd.func36, Tryd.ntmps36
      go_wp2_with (go_at_call 47; refine (nan_str _ _).mono ?_; rintro e w' ⟨rfl, rfl⟩)
      go_ret
      exact ⟨rfl, rfl⟩
theorem cmp_str_at (x y : ByteArray) (w : World) : Calls Tryd.prog 36 #[.string x, .string y] w fun e w' => e = .returned (.int .i64 (cmpS x.data.toList y.data.toList)) ∧ w = w' := by
  have := cmp_str x.data.toList y.data.toList w
  rw [bs_of, bs_of] at this; exact this
def pcmp (p q : KPart) : Int :=
  if p.sort = q.sort then (if p.sort = 105 then cmpI p.n q.n else if p.sort = 100 then cmpI q.n p.n else if p.sort = 117 then cmpI p.u q.u else if p.sort = 116 then cmpS p.s.data.toList q.s.data.toList else 0) else cmpI p.sort q.sort
set_option maxHeartbeats 1000000 in
theorem compare_any (p q : KPart) (w : World) : Calls Tryd.prog 22 #[.agg #[.int .u8 p.sort, .int .i64 p.n, .int .u64 p.u, .string p.s], .agg #[.int .u8 q.sort, .int .i64 q.n, .int .u64 q.u, .string q.s]] w fun e w' => e = .returned (.int .i64 (pcmp p q)) ∧ Below w.heap.size w w' := by
  obtain ⟨sp, np, up, tp⟩ := p
  obtain ⟨sq, nq, uq, tq⟩ := q
  have fin : Below w.heap.size w ((w.alloc (.cells #[.int .u8 sp, .int .i64 np, .int .u64 up, .string tp] 41)).alloc (.cells #[.int .u8 sq, .int .i64 nq, .int .u64 uq, .string tq] 41)) :=
    ((Below.refl _ _).alloc (Nat.le_refl _) _).alloc (by simp) _
  have HF := Lib.hid fin
  clear fin
  by_cases he : sp = sq
  · subst he
    have he1 : ((sp : Int) != sp) = false := by simp
    by_cases c1 : sp = 105
    · subst c1
      rw [show pcmp ⟨105, np, up, tp⟩ ⟨105, nq, uq, tq⟩ = cmpI np nq from rfl]
      go_enter Tryd.func22, Tryd.ntmps22
      go_wp2_with (go_at_call 34; refine (cmp_i64 _ _ _).mono ?_; rintro e w' ⟨rfl, rfl⟩)
      go_ret
      exact ⟨rfl, HF.out⟩
    · by_cases c2 : sp = 100
      · subst c2
        rw [show pcmp ⟨100, np, up, tp⟩ ⟨100, nq, uq, tq⟩ = cmpI nq np from rfl]
        go_enter Tryd.func22, Tryd.ntmps22
        go_wp2_with (go_at_call 34; refine (cmp_i64 _ _ _).mono ?_; rintro e w' ⟨rfl, rfl⟩)
        go_ret
        exact ⟨rfl, HF.out⟩
      · by_cases c3 : sp = 117
        · subst c3
          rw [show pcmp ⟨117, np, up, tp⟩ ⟨117, nq, uq, tq⟩ = cmpI up uq from rfl]
          go_enter Tryd.func22, Tryd.ntmps22
          go_wp2_with (go_at_call 35; refine (cmp_u64 _ _ _).mono ?_; rintro e w' ⟨rfl, rfl⟩)
          go_ret
          exact ⟨rfl, HF.out⟩
        · by_cases c4 : sp = 116
          · subst c4
            rw [show pcmp ⟨116, np, up, tp⟩ ⟨116, nq, uq, tq⟩ = cmpS tp.data.toList tq.data.toList from rfl]
            go_enter Tryd.func22, Tryd.ntmps22
            go_wp2_with (go_at_call 36; refine (cmp_str_at _ _ _).mono ?_; rintro e w' ⟨rfl, rfl⟩)
            go_ret
            exact ⟨rfl, HF.out⟩
          · rw [show pcmp ⟨sp, np, up, tp⟩ ⟨sp, nq, uq, tq⟩ = 0 by unfold pcmp; simp [c1, c2, c3, c4]]
            have k1 : ((sp : Int) == 105) = false := by simp; omega
            have k2 : ((sp : Int) == 100) = false := by simp; omega
            have k3 : ((sp : Int) == 117) = false := by simp; omega
            have k4 : ((sp : Int) == 116) = false := by simp; omega
            go_enter Tryd.func22, Tryd.ntmps22
            go_wp2
            go_ret
            exact ⟨rfl, HF.out⟩
  · rw [show pcmp ⟨sp, np, up, tp⟩ ⟨sq, nq, uq, tq⟩ = cmpI sp sq from if_neg he]
    have he1 : ((sp : Int) != sq) = true := by simp; omega
    have he2 : ((sp : Int) == sq) = false := by simp; omega
    go_enter Tryd.func22, Tryd.ntmps22
    go_wp2_with (go_at_call 33; refine (cmp_u8 _ _ _).mono ?_; rintro e w' ⟨rfl, rfl⟩)
    go_ret
    exact ⟨rfl, HF.out⟩
end Go.Proofs.YthablblbegmmaaaDoor
