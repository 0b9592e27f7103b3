/-
  The Go text of edits, walked: isLevel, isKey, check, Check. Conditions: as each theorem states.
-/
import Derived.Test.YtkocekogkpemiaaDoorEdBd
namespace Go.Proofs.YtkocekogkpemiaaDoor.Ed
open Go.RowKit
open Go.Proofs.YtkocekogkpemiaaDoor
open Vi Ba

def QPost (w : World) (v : Value) (e : Ending) (w' : World) : Prop := e = .returned v ∧ Below w.heap.size w w'
theorem level_any (n : Int) (w : World) : Calls Tryd.prog 33 #[.int .i64 n] w fun e w' => e = .returned (.bool (decide (lvOk n))) ∧ w' = w := by
  by_cases h0 : 0 ≤ n
  · by_cases h1 : n < 4
    · have e : decide (lvOk n) = true := decide_eq_true ⟨h0, h1⟩
      rw [e]
      go_enter Tryd.func33, Tryd.ntmps33
      go_wp2
      go_ret
      exact ⟨rfl, rfl⟩
    · have e : decide (lvOk n) = false := decide_eq_false fun h => h1 h.2
      rw [e]
      go_enter Tryd.func33, Tryd.ntmps33
      go_wp2
      go_ret
      exact ⟨rfl, rfl⟩
  · have e : decide (lvOk n) = false := decide_eq_false fun h => h0 h.1
    rw [e]
    go_enter Tryd.func33, Tryd.ntmps33
    go_wp2
    go_ret
    exact ⟨rfl, rfl⟩
theorem key_any (s : ByteArray) (hs : s.size ≤ 9223372036854775807) (w : World) : Calls Tryd.prog 40 #[.string s] w fun e w' => e = .returned (.bool (decide (kyOk s))) ∧ w' = w := by
  by_cases h0 : s.size = 0
  · have e : decide (kyOk s) = false := decide_eq_false fun h => h.1 h0
    rw [e]
    obtain rfl := empty_of h0
    go_enter Tryd.func40, Tryd.ntmps40
    go_wp2
    go_ret
    exact ⟨rfl, rfl⟩
  · obtain ⟨hn, hn'⟩ := str_nil h0
    by_cases h1 : s.size ≤ 200
    · have e : decide (kyOk s) = true := decide_eq_true ⟨h0, h1⟩
      rw [e]
      have h2 : decide ((s.size : Int) ≤ 200) = true := decide_eq_true (by omega)
      go_enter Tryd.func40, Tryd.ntmps40
      go_wp2
      go_ret
      exact ⟨rfl, rfl⟩
    · have e : decide (kyOk s) = false := decide_eq_false fun h => h1 h.2
      rw [e]
      have h2 : decide ((s.size : Int) ≤ 200) = false := decide_eq_false (by omega)
      go_enter Tryd.func40, Tryd.ntmps40
      go_wp2
      go_ret
      exact ⟨rfl, rfl⟩
theorem less_tri : ∀ (a b : List UInt8), (!(Op.bytesLess a b || a == b)) = Op.bytesLess b a
  | [], [] => rfl
  | [], _ :: _ => rfl
  | _ :: _, [] => rfl
  | x :: a, y :: b => by
    have ih := less_tri a b
    unfold Op.bytesLess
    by_cases h1 : x < y
    · have h2 : ¬ y < x := by intro h; have := UInt8.lt_iff_toNat_lt.1 h; have := UInt8.lt_iff_toNat_lt.1 h1; omega
      have h3 : ¬ y = x := by intro h; subst h; exact h2 h1
      have h4 : ¬ x = y := fun h => h3 h.symm
      simp [h1, h2, h3]
    · by_cases h2 : y < x
      · have h3 : ¬ x = y := by intro h; subst h; exact h1 h2
        simp [h1, h2, h3]
      · have h3 : x = y := by
          apply UInt8.toNat_inj.1
          have a1 : ¬ x.toNat < y.toNat := fun h => h1 (UInt8.lt_iff_toNat_lt.2 h)
          have a2 : ¬ y.toNat < x.toNat := fun h => h2 (UInt8.lt_iff_toNat_lt.2 h)
          omega
        subst h3
        simp [h1] at ih ⊢
        exact ih
theorem gtr_str (x y : ByteArray) (t : TypeId) (W : World) : (binOp .gtr t (.string x) (.string y)).run Tryd.prog W = .ok (.bool (Op.bytesLess y.toList x.toList)) W := by
  have e : binOp .gtr t (.string x) (.string y) = pure (.bool !(Op.bytesLess x.toList y.toList || x.toList == y.toList)) := by simp [binOp, Op.stringOp]
  rw [e, less_tri]; rfl
def Fil.val (a : Fil) : Value := .agg #[.int .i64 a.level, .int .u64 a.number, .int .u64 a.size, .int .u64 a.count, .string a.least, .string a.most]
theorem check_any (a : Fil) (ho : a.ok) (w : World) : Calls Tryd.prog 30 #[a.val] w (QPost w (.int .i64 (chkA a))) := by
  obtain ⟨v, n, s, c, l, m⟩ := a
  obtain ⟨_, _, o1, o2, o3, o4, o5⟩ := ho
  simp only at o1 o2 o3 o4 o5
  have HV := Lib.hid (level_any v)
  have HL := Lib.hid (key_any l o4)
  have HM := Lib.hid (key_any m o5)
  unfold Fil.val
  have hbl : m.toList = m.data.toList := Lib.toList_data m
  have hbl2 : l.toList = l.data.toList := Lib.toList_data l
  have HG := gtr_str l m
  have CL := (rfl : chkA ⟨v, n, s, c, l, m⟩ = chkA ⟨v, n, s, c, l, m⟩)
  by_cases hv : lvOk v
  · rw [decide_eq_true hv] at HV
    by_cases hl : kyOk l
    · rw [decide_eq_true hl] at HL
      by_cases hm : kyOk m
      · rw [decide_eq_true hm] at HM
        cases hb : Op.bytesLess m.data.toList l.data.toList
        · have hb3 : Op.bytesLess m.toList l.toList = false := by rw [hbl, hbl2]; exact hb
          by_cases hn : n = 0
          · subst hn
            have E : chkA ⟨v, 0, s, c, l, m⟩ = 8 := by unfold chkA; rw [if_neg (not_not_intro hv)]; rw [if_neg (not_not_intro ⟨hl, hm, hb⟩)]; exact if_pos rfl
            rw [E]
            clear CL E hv hl hm hbl hbl2 hb
            go_enter Tryd.func30, Tryd.ntmps30
            go_wp2_with (first
              | (go_at_call 33; (with_reducible refine (HV.out _).mono ?_); rintro e w' ⟨rfl, rfl⟩)
              | (go_at_call 40; (with_reducible refine (HL.out _).mono ?_); rintro e w' ⟨rfl, rfl⟩)
              | (go_at_call 40; (with_reducible refine (HM.out _).mono ?_); rintro e w' ⟨rfl, rfl⟩))
            go_ret
            exact ⟨rfl, (Below.refl _ _).alloc (Nat.le_refl _) _⟩
          · have hn' : ((n : Int) == 0) = false := by simp; omega
            have E : chkA ⟨v, n, s, c, l, m⟩ = 0 := by unfold chkA; rw [if_neg (not_not_intro hv)]; rw [if_neg (not_not_intro ⟨hl, hm, hb⟩)]; exact if_neg hn
            rw [E]
            clear CL E hv hl hm hbl hbl2 hb hn
            go_enter Tryd.func30, Tryd.ntmps30
            go_wp2_with (first
              | (go_at_call 33; (with_reducible refine (HV.out _).mono ?_); rintro e w' ⟨rfl, rfl⟩)
              | (go_at_call 40; (with_reducible refine (HL.out _).mono ?_); rintro e w' ⟨rfl, rfl⟩)
              | (go_at_call 40; (with_reducible refine (HM.out _).mono ?_); rintro e w' ⟨rfl, rfl⟩))
            go_ret
            exact ⟨rfl, (Below.refl _ _).alloc (Nat.le_refl _) _⟩
        · have hb3 : Op.bytesLess m.toList l.toList = true := by rw [hbl, hbl2]; exact hb
          have E : chkA ⟨v, n, s, c, l, m⟩ = 19 := by unfold chkA; rw [if_neg (not_not_intro hv)]; exact if_pos fun h => by rw [h.2.2] at hb; cases hb
          rw [E]
          clear CL E hv hl hm hbl hbl2 hb
          go_enter Tryd.func30, Tryd.ntmps30
          go_wp2_with (first
            | (go_at_call 33; (with_reducible refine (HV.out _).mono ?_); rintro e w' ⟨rfl, rfl⟩)
            | (go_at_call 40; (with_reducible refine (HL.out _).mono ?_); rintro e w' ⟨rfl, rfl⟩)
            | (go_at_call 40; (with_reducible refine (HM.out _).mono ?_); rintro e w' ⟨rfl, rfl⟩))
          go_ret
          exact ⟨rfl, (Below.refl _ _).alloc (Nat.le_refl _) _⟩
      · rw [decide_eq_false hm] at HM
        have E : chkA ⟨v, n, s, c, l, m⟩ = 19 := by unfold chkA; rw [if_neg (not_not_intro hv)]; exact if_pos fun h => hm h.2.1
        rw [E]
        clear CL E hv hl hm
        go_enter Tryd.func30, Tryd.ntmps30
        go_wp2_with (first
          | (go_at_call 33; (with_reducible refine (HV.out _).mono ?_); rintro e w' ⟨rfl, rfl⟩)
          | (go_at_call 40; (with_reducible refine (HL.out _).mono ?_); rintro e w' ⟨rfl, rfl⟩)
          | (go_at_call 40; (with_reducible refine (HM.out _).mono ?_); rintro e w' ⟨rfl, rfl⟩))
        go_ret
        exact ⟨rfl, (Below.refl _ _).alloc (Nat.le_refl _) _⟩
    · rw [decide_eq_false hl] at HL
      have E : chkA ⟨v, n, s, c, l, m⟩ = 19 := by unfold chkA; rw [if_neg (not_not_intro hv)]; exact if_pos fun h => hl h.1
      rw [E]
      clear CL E hv hl
      go_enter Tryd.func30, Tryd.ntmps30
      go_wp2_with (first
        | (go_at_call 33; (with_reducible refine (HV.out _).mono ?_); rintro e w' ⟨rfl, rfl⟩)
        | (go_at_call 40; (with_reducible refine (HL.out _).mono ?_); rintro e w' ⟨rfl, rfl⟩)
        | (go_at_call 40; (with_reducible refine (HM.out _).mono ?_); rintro e w' ⟨rfl, rfl⟩))
      go_ret
      exact ⟨rfl, (Below.refl _ _).alloc (Nat.le_refl _) _⟩
  · rw [decide_eq_false hv] at HV
    have E : chkA ⟨v, n, s, c, l, m⟩ = 21 := by unfold chkA; exact if_pos hv
    rw [E]
    clear CL E hv
    go_enter Tryd.func30, Tryd.ntmps30
    go_wp2_with (first
      | (go_at_call 33; (with_reducible refine (HV.out _).mono ?_); rintro e w' ⟨rfl, rfl⟩)
      | (go_at_call 40; (with_reducible refine (HL.out _).mono ?_); rintro e w' ⟨rfl, rfl⟩)
      | (go_at_call 40; (with_reducible refine (HM.out _).mono ?_); rintro e w' ⟨rfl, rfl⟩))
    go_ret
    exact ⟨rfl, (Below.refl _ _).alloc (Nat.le_refl _) _⟩
end Go.Proofs.YtkocekogkpemiaaDoor.Ed
