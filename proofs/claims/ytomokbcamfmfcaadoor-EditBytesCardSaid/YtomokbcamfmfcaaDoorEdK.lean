/-
  The Go text of edits, walked: whether two are the same; Light. Conditions: as each theorem states.
-/
import Derived.Test.YtomokbcamfmfcaaDoorEdJ
import Derived.Deep.RegionHeldLaw
namespace Go.Proofs.YtomokbcamfmfcaaDoor.Ed
open Go.RowKit
open Go.Proofs.YtomokbcamfmfcaaDoor
open Vi Ba

theorem neq_fil (a : Fil) (w : World) : (binOp .neq 64 a.val a.val).run Tryd.prog w = .ok (.bool false) w := by
  unfold Fil.val
  go_simp
theorem neq_gon (a : Gon) (w : World) : (binOp .neq 73 (.agg #[.int .i64 a.level, .int .u64 a.number]) (.agg #[.int .i64 a.level, .int .u64 a.number])).run Tryd.prog w = .ok (.bool false) w := by
  go_simp
theorem fil_eq (a b : Fil) : a = b ↔ a.level = b.level ∧ a.number = b.number ∧ a.size = b.size ∧ a.count = b.count ∧ a.least = b.least ∧ a.most = b.most := by
  obtain ⟨a1, a2, a3, a4, a5, a6⟩ := a
  obtain ⟨b1, b2, b3, b4, b5, b6⟩ := b
  simp
theorem ba_eq {a b : ByteArray} (h : a.toList = b.toList) : a = b := by
  rw [Lib.toList_data, Lib.toList_data] at h
  rw [← bs_of a, ← bs_of b, h]
theorem neq_fil_yes (a b : Fil) (h : a ≠ b) (w : World) : (binOp .neq 64 a.val b.val).run Tryd.prog w = .ok (.bool true) w := by
  obtain ⟨a1, a2, a3, a4, a5, a6⟩ := a
  obtain ⟨b1, b2, b3, b4, b5, b6⟩ := b
  unfold Fil.val
  simp only
  go_simp
  intro h1 h2 h3 h4 h5 h6
  have e2 : a2 = b2 := by omega
  have e3 : a3 = b3 := by omega
  have e4 : a4 = b4 := by omega
  exact h (by rw [h1, e2, e3, e4, ba_eq h5, ba_eq h6])
theorem neq_gon_yes (a b : Gon) (h : a ≠ b) (w : World) : (binOp .neq 73 (.agg #[.int .i64 a.level, .int .u64 a.number]) (.agg #[.int .i64 b.level, .int .u64 b.number])).run Tryd.prog w = .ok (.bool true) w := by
  obtain ⟨a1, a2⟩ := a
  obtain ⟨b1, b2⟩ := b
  simp only
  go_simp
  intro h1 h2
  have e2 : a2 = b2 := by omega
  exact h (by rw [h1, e2])
def LiRel (w : World) (k : Nat) (i : Value) (wr : World) : Prop := ∃ j : Nat, j ≤ k ∧ i = .int .i64 (j : Nat) ∧ Below w.heap.size w wr
theorem first_diff {T : Type} : ∀ (l m : List T), l.length = m.length → l ≠ m → ∃ k, ∃ (h1 : k < l.length) (h2 : k < m.length), l[k] ≠ m[k] ∧ ∀ i (g1 : i < l.length) (g2 : i < m.length), i < k → l[i] = m[i]
  | [], [], _, h => absurd rfl h
  | [], _ :: _, h, _ => by simp at h
  | _ :: _, [], h, _ => by simp at h
  | x :: l, y :: m, hl, h => by
    by_cases e : x = y
    · subst e
      obtain ⟨k, h1, h2, h3, h4⟩ := first_diff l m (by simpa using hl) (fun e => h (by rw [e]))
      refine ⟨k + 1, by simp; omega, by simp; omega, by simpa using h3, fun i g1 g2 hi => ?_⟩
      match i with
      | 0 => rfl
      | i + 1 => simpa using h4 i (by simpa using g1) (by simpa using g2) (by omega)
    · exact ⟨0, by simp, by simp, by simpa using e, fun i _ _ hi => by omega⟩

theorem eqa_len {w : World} {A A2 : Option Addr} {c c2 : Nat} {n m : Nat} (hn : n ≤ 9223372036854775807) (hm : m ≤ 9223372036854775807) (h : n ≠ m) :
    Calls Tryd.prog 34 #[.slice A n c, .slice A2 m c2] w (BoPost w false) := by
  have h1 : ((n : Int) == (m : Int)) = false := by simp; omega
  have h2 : ((n : Int) != (m : Int)) = true := by simp [bne, h1]
  go_enter Tryd.func34, Tryd.ntmps34
  go_wp2
  go_ret
  exact ⟨rfl, Below.refl _ _⟩
set_option maxHeartbeats 2000000 in
set_option maxRecDepth 100000 in
theorem eqa_go {w : World} {A A2 : Option Addr} {c c2 : Nat} {l m : List Fil} (k : Nat) (hk : k ≤ l.length) (hlm : l.length = m.length) (hl : l.length ≤ 100000) (ha : ARow w A l) (hb : ARow w A2 m) (hpre : ∀ i (h1 : i < l.length) (h2 : i < m.length), i < k → l[i] = m[i]) (hat : ∀ (h1 : k < l.length) (h2 : k < m.length), l[k] ≠ m[k]) :
    Calls Tryd.prog 34 #[.slice A l.length c, .slice A2 m.length c2] w (BoPost w (decide (k = l.length))) := by
  replace ha := Lib.hid ha
  replace hb := Lib.hid hb
  replace hpre := Lib.hid hpre
  replace hat := Lib.hid hat
  rw [← hlm]
  go_enter Tryd.func34, Tryd.ntmps34
  go_wp2
  go_loopw [13] (LiRel w k) (fun i _ => l.length - (intOf i).toNat)
  case atStart => exact ⟨0, by omega, rfl, Below.refl _ _⟩
  case round =>
    obtain ⟨j, hj, rfl, hbw⟩ := hrel
    by_cases hlt : j < l.length
    · obtain ⟨a, rfl, hab, hca⟩ := (ha.out.on hbw) (by omega)
      obtain ⟨x0, x1, x2, x3, x4, x5⟩ := hca j hlt
      obtain ⟨a2, rfl, hab2, hca2⟩ := (hb.out.on hbw) (by omega)
      obtain ⟨y0, y1, y2, y3, y4, y5⟩ := hca2 j (by omega)
      clear hca hca2
      by_cases hjk : j < k
      · have he := hpre.out j hlt (by omega) hjk
        rw [← he] at y0 y1 y2 y3 y4 y5
        have hnp := neq_fil l[j]
        clear he
        generalize l[j] = y at *
        unfold Fil.val at hnp
        go_wp2
        go_region
        all_goals go_wp2
        all_goals exact ⟨⟨j + 1, by omega, by go_num, hbw.trans ⟨rfl, rfl, rfl, Nat.le_refl _, fun _ _ => rfl⟩⟩, by simp [intOf]; omega⟩
      · have hjk2 : j = k := by omega
        subst hjk2
        have hnp := neq_fil_yes l[j] (m[j]'(by omega)) (hat.out hlt (by omega))
        have e : decide (j = l.length) = false := decide_eq_false (by omega)
        rw [e]
        generalize l[j] = y at *
        generalize m[j]'(by omega) = z at *
        unfold Fil.val at hnp
        go_wp2
        go_region
        all_goals go_wp2
        all_goals
          go_ret
          exact ⟨rfl, hbw.trans ⟨rfl, rfl, rfl, Nat.le_refl _, fun _ _ => rfl⟩⟩
    · have hkl : k = l.length := by omega
      have e := Lib.hid (decide_eq_true hkl)
      go_wp2
      go_ret
      exact ⟨by rw [e.out]; rfl, hbw⟩

theorem eqg_len {w : World} {A A2 : Option Addr} {c c2 : Nat} {n m : Nat} (hn : n ≤ 9223372036854775807) (hm : m ≤ 9223372036854775807) (h : n ≠ m) :
    Calls Tryd.prog 35 #[.slice A n c, .slice A2 m c2] w (BoPost w false) := by
  have h1 : ((n : Int) == (m : Int)) = false := by simp; omega
  have h2 : ((n : Int) != (m : Int)) = true := by simp [bne, h1]
  go_enter Tryd.func35, Tryd.ntmps35
  go_wp2
  go_ret
  exact ⟨rfl, Below.refl _ _⟩
set_option maxHeartbeats 2000000 in
set_option maxRecDepth 100000 in
theorem eqg_go {w : World} {A A2 : Option Addr} {c c2 : Nat} {l m : List Gon} (k : Nat) (hk : k ≤ l.length) (hlm : l.length = m.length) (hl : l.length ≤ 100000) (ha : GRow w A l) (hb : GRow w A2 m) (hpre : ∀ i (h1 : i < l.length) (h2 : i < m.length), i < k → l[i] = m[i]) (hat : ∀ (h1 : k < l.length) (h2 : k < m.length), l[k] ≠ m[k]) :
    Calls Tryd.prog 35 #[.slice A l.length c, .slice A2 m.length c2] w (BoPost w (decide (k = l.length))) := by
  replace ha := Lib.hid ha
  replace hb := Lib.hid hb
  replace hpre := Lib.hid hpre
  replace hat := Lib.hid hat
  rw [← hlm]
  go_enter Tryd.func35, Tryd.ntmps35
  go_wp2
  go_loopw [13] (LiRel w k) (fun i _ => l.length - (intOf i).toNat)
  case atStart => exact ⟨0, by omega, rfl, Below.refl _ _⟩
  case round =>
    obtain ⟨j, hj, rfl, hbw⟩ := hrel
    by_cases hlt : j < l.length
    · obtain ⟨a, rfl, hab, hca⟩ := (ha.out.on hbw) (by omega)
      obtain ⟨x0, x1⟩ := hca j hlt
      obtain ⟨a2, rfl, hab2, hca2⟩ := (hb.out.on hbw) (by omega)
      obtain ⟨y0, y1⟩ := hca2 j (by omega)
      clear hca hca2
      by_cases hjk : j < k
      · have he := hpre.out j hlt (by omega) hjk
        rw [← he] at y0 y1
        have hnp := neq_gon l[j]
        clear he
        generalize l[j] = y at *
        skip
        go_wp2
        go_region
        all_goals go_wp2
        all_goals exact ⟨⟨j + 1, by omega, by go_num, hbw.trans ⟨rfl, rfl, rfl, Nat.le_refl _, fun _ _ => rfl⟩⟩, by simp [intOf]; omega⟩
      · have hjk2 : j = k := by omega
        subst hjk2
        have hnp := neq_gon_yes l[j] (m[j]'(by omega)) (hat.out hlt (by omega))
        have e : decide (j = l.length) = false := decide_eq_false (by omega)
        rw [e]
        generalize l[j] = y at *
        generalize m[j]'(by omega) = z at *
        skip
        go_wp2
        go_region
        all_goals go_wp2
        all_goals
          go_ret
          exact ⟨rfl, hbw.trans ⟨rfl, rfl, rfl, Nat.le_refl _, fun _ _ => rfl⟩⟩
    · have hkl : k = l.length := by omega
      have e := Lib.hid (decide_eq_true hkl)
      go_wp2
      go_ret
      exact ⟨by rw [e.out]; rfl, hbw⟩
theorem eqa_yes {w : World} {A A2 : Option Addr} {c c2 : Nat} {l : List Fil} (hl : l.length ≤ 100000) (ha : ARow w A l) (hb : ARow w A2 l) :
    Calls Tryd.prog 34 #[.slice A l.length c, .slice A2 l.length c2] w (BoPost w true) := by
  have := eqa_go (c := c) (c2 := c2) l.length (Nat.le_refl _) rfl hl ha hb (fun _ _ _ _ => rfl) (fun h => absurd h (Nat.lt_irrefl _))
  rw [decide_eq_true rfl] at this
  exact this
theorem eqa_no {w : World} {A A2 : Option Addr} {c c2 : Nat} {l m : List Fil} (hl : l.length ≤ 100000) (hm : m.length ≤ 100000) (ha : ARow w A l) (hb : ARow w A2 m) (h : l ≠ m) :
    Calls Tryd.prog 34 #[.slice A l.length c, .slice A2 m.length c2] w (BoPost w false) := by
  by_cases hlm : l.length = m.length
  · obtain ⟨k, h1, h2, h3, h4⟩ := first_diff l m hlm h
    have := eqa_go (c := c) (c2 := c2) k (by omega) hlm hl ha hb h4 (fun _ _ => h3)
    rw [decide_eq_false (show ¬ k = l.length by omega)] at this
    exact this
  · exact eqa_len (by omega) (by omega) hlm
theorem eqg_yes {w : World} {A A2 : Option Addr} {c c2 : Nat} {l : List Gon} (hl : l.length ≤ 100000) (ha : GRow w A l) (hb : GRow w A2 l) :
    Calls Tryd.prog 35 #[.slice A l.length c, .slice A2 l.length c2] w (BoPost w true) := by
  have := eqg_go (c := c) (c2 := c2) l.length (Nat.le_refl _) rfl hl ha hb (fun _ _ _ _ => rfl) (fun h => absurd h (Nat.lt_irrefl _))
  rw [decide_eq_true rfl] at this
  exact this
theorem eqg_no {w : World} {A A2 : Option Addr} {c c2 : Nat} {l m : List Gon} (hl : l.length ≤ 100000) (hm : m.length ≤ 100000) (ha : GRow w A l) (hb : GRow w A2 m) (h : l ≠ m) :
    Calls Tryd.prog 35 #[.slice A l.length c, .slice A2 m.length c2] w (BoPost w false) := by
  by_cases hlm : l.length = m.length
  · obtain ⟨k, h1, h2, h3, h4⟩ := first_diff l m hlm h
    have := eqg_go (c := c) (c2 := c2) k (by omega) hlm hl ha hb h4 (fun _ _ => h3)
    rw [decide_eq_false (show ¬ k = l.length by omega)] at this
    exact this
  · exact eqg_len (by omega) (by omega) hlm
end Go.Proofs.YtomokbcamfmfcaaDoor.Ed
