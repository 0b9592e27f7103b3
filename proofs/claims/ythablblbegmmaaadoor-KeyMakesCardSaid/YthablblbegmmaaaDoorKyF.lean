/-
  The Go text of which row of parts stands ahead, and whether two are the same, walked. Conditions: as each theorem states.
-/
import Derived.Test.YthablblbegmmaaaDoorKyE
import Derived.Test.YthablblbegmmaaaDoorLaw
namespace Go.Proofs.YthablblbegmmaaaDoor
open Go.RowKit
open Vi

def pless : List KPart → List KPart → Bool
  | _, [] => false
  | [], _ :: _ => true
  | x :: a, y :: b => if pcmp x y = 0 then pless a b else decide (pcmp x y < 0)
theorem pless_nil (a : List KPart) : pless a [] = false := by cases a <;> rfl
theorem pless_first (y : KPart) (b : List KPart) : pless [] (y :: b) = true := rfl
theorem pless_on {x y : KPart} (h : pcmp x y = 0) (a b : List KPart) : pless (x :: a) (y :: b) = pless a b := by rw [pless, if_pos h]
theorem pless_off {x y : KPart} (h : ¬ pcmp x y = 0) (a b : List KPart) : pless (x :: a) (y :: b) = decide (pcmp x y < 0) := by rw [pless, if_neg h]
theorem pless_len {a b : List KPart} (h : min a.length b.length = 0) : pless a b = decide (a.length < b.length) := by
  match a, b with
  | a, [] => rw [pless_nil]; simp
  | [], y :: b => rw [pless_first]; simp
  | x :: a, y :: b => simp at h
def LsJ (w : World) (la lb : List KPart) (i : Value) (wr : World) : Prop :=
  ∃ j : Nat, j ≤ la.length ∧ j ≤ lb.length ∧ pless (la.drop j) (lb.drop j) = pless la lb ∧ i = .int .i64 j ∧ Below w.heap.size w wr
set_option maxRecDepth 100000 in
set_option maxHeartbeats 2000000 in
theorem less_any {w : World} (A B : Option Addr) (c d : Nat) (la lb : List KPart) (hla : la.length ≤ 1000) (hlb : lb.length ≤ 1000) (ha : PRow w A la) (hb : PRow w B lb) :
    Calls Tryd.prog 13 #[.slice A la.length c, .slice B lb.length d] w fun e w' => e = .returned (.bool (pless la lb)) ∧ Below w.heap.size w w' := by
  have HA := Lib.hid ha
  have HB := Lib.hid hb
  clear ha hb
  go_enter Tryd.func13, Tryd.ntmps13
  go_wp2
  go_loopw [12] (LsJ w la lb) (fun i _ => min la.length lb.length - (intOf i).toNat)
  case atStart => exact ⟨0, by omega, by omega, rfl, rfl, Below.refl _ _⟩
  case round =>
    obtain ⟨j, hja, hjb, hg, rfl, hb⟩ := hrel
    have HG := Lib.hid hg
    clear hg
    by_cases hlt : j < la.length ∧ j < lb.length
    · obtain ⟨h1, h2⟩ := hlt
      obtain ⟨a, rfl, hab, hca⟩ := HA.out (by omega)
      obtain ⟨b, rfl, hbb, hcb⟩ := HB.out (by omega)
      obtain ⟨x0, x1, x2, x3⟩ := (hca j h1).keep (w' := wr) fun q hq => hb.cell (by rw [hq, block_add]; exact hab)
      obtain ⟨y0, y1, y2, y3⟩ := (hcb j h2).keep (w' := wr) fun q hq => hb.cell (by rw [hq, block_add]; exact hbb)
      have hda : la.drop j = la[j] :: la.drop (j + 1) := List.drop_eq_getElem_cons h1
      have hdb : lb.drop j = lb[j] :: lb.drop (j + 1) := List.drop_eq_getElem_cons h2
      have HDA := Lib.hid hda
      have HDB := Lib.hid hdb
      clear hca hcb hda hdb
      have hmn : (j : Int) < min (la.length : Int) (lb.length : Int) := by omega
      by_cases he : pcmp la[j] lb[j] = 0
      · have he1 : (pcmp la[j] lb[j] == 0) = true := by simpa using he
        have he2 : (pcmp la[j] lb[j] != 0) = false := by simpa using he
        have HE := Lib.hid he
        clear he
        go_wp2
        go_still_tail 8, (by kernel_rfl)
        go_wp2_with (go_at_call 22; refine (compare_any la[j] lb[j] _).mono ?_; rintro e w1 ⟨rfl, hb1⟩)
        go_roundw
        case rel => exact ⟨j + 1, by omega, by omega, by rw [← HG.out, HDA.out, HDB.out, pless_on HE.out], by go_num, hb.drew.trans (hb1.mono hb.size)⟩
        case measure => simp [intOf]; omega
      · have he1 : (pcmp la[j] lb[j] == 0) = false := by simpa using he
        have he2 : (pcmp la[j] lb[j] != 0) = true := by simpa using he
        go_wp2
        go_still_tail 8, (by kernel_rfl)
        go_wp2_with (go_at_call 22; refine (compare_any la[j] lb[j] _).mono ?_; rintro e w1 ⟨rfl, hb1⟩)
        go_ret
        exact ⟨ret_bool (by rw [← HG.out, HDA.out, HDB.out, pless_off he]), hb.drew.trans (hb1.mono hb.size)⟩
    · have hmn : ¬ (j : Int) < min (la.length : Int) (lb.length : Int) := by omega
      go_wp2
      go_ret
      refine ⟨ret_bool ?_, hb⟩
      rw [← HG.out, pless_len (by simp; omega), List.length_drop, List.length_drop]
      refine decide_eq_decide.2 ?_
      omega

/-! light: is a row gone through here? -/
def LiJ (w : World) (l : List KPart) (i : Value) (wr : World) : Prop :=
  ∃ j : Nat, j ≤ l.length ∧ (∀ k (h : k < l.length), k < j → l[k].s.size ≤ 300) ∧ (0 < j → l.length ≤ 30) ∧ i = .int .i64 j ∧ Below w.heap.size w wr
def Light (l : List KPart) : Prop := (0 < l.length → l.length ≤ 30) ∧ ∀ k (h : k < l.length), l[k].s.size ≤ 300
set_option maxRecDepth 100000 in
set_option maxHeartbeats 2000000 in
theorem light_any {w : World} (A : Option Addr) (c : Nat) (l : List KPart) (hl : l.length ≤ 9223372036854775807) (ha : PRow w A l) (hs : ∀ p ∈ l, p.s.size ≤ 9223372036854775807) :
    Calls Tryd.prog 5 #[.slice A l.length c] w fun e w' => ((e = .returned (.bool true) ∧ Light l) ∨ (e = .returned (.bool false) ∧ ¬ Light l)) ∧ Below w.heap.size w w' := by
  have HA := Lib.hid ha
  have HS := Lib.hid hs
  clear ha hs
  go_enter Tryd.func5, Tryd.ntmps5
  go_wp2
  go_loopw [7] (LiJ w l) (fun i _ => l.length - (intOf i).toNat)
  case atStart => exact ⟨0, by omega, by omega, by omega, rfl, Below.refl _ _⟩
  case round =>
    obtain ⟨j, hj, hd, h0, rfl, hb⟩ := hrel
    have HD := Lib.hid hd
    have H0 := Lib.hid h0
    clear hd h0
    by_cases hlt : j < l.length
    · obtain ⟨a, rfl, hab, hca⟩ := HA.out (by omega)
      obtain ⟨x0, x1, x2, x3⟩ := (hca j hlt).keep (w' := wr) fun q hq => hb.cell (by rw [hq, block_add]; exact hab)
      have hsz := HS.out l[j] (List.getElem_mem hlt)
      clear hca
      by_cases h30 : l.length ≤ 30
      · by_cases h300 : l[j].s.size ≤ 300
        · go_wp2
          go_roundw
          case rel => exact ⟨j + 1, by omega, fun k h hk => by
            by_cases e : k = j
            · subst e; exact h300
            · exact HD.out k h (by omega), fun _ => h30, by go_num, hb.alloc hb.size _⟩
          case measure => simp [intOf]; omega
        · go_wp2
          go_ret
          exact ⟨.inr ⟨rfl, fun h => h300 (h.2 j hlt)⟩, hb.alloc hb.size _⟩
      · go_wp2
        go_ret
        exact ⟨.inr ⟨rfl, fun h => h30 (h.1 (by omega))⟩, hb.alloc hb.size _⟩
    · go_wp2
      go_ret
      exact ⟨.inl ⟨rfl, fun h => H0.out (by omega), fun k h => HD.out k h (by omega)⟩, hb⟩
end Go.Proofs.YthablblbegmmaaaDoor
