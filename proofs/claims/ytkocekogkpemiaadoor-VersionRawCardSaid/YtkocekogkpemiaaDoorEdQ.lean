/-
  The document's own edits, walked: numbers and texts written, Check. Conditions: as each theorem states.
-/
import Derived.Test.YtkocekogkpemiaaDoorEdL
namespace Go.Proofs.YtkocekogkpemiaaDoor.Ed
open Go.RowKit
open Go.Proofs.YtkocekogkpemiaaDoor
open Vi Ba

def ky (l m : ByteArray) (j : Nat) : ByteArray := if j = 0 then l else m
def InRel (l m : ByteArray) (W : World) (i : Value) (wr : World) : Prop := ∃ j : Nat, j ≤ 2 ∧ i = .int .i64 (j : Nat) ∧ (∀ k, k < j → kyOk (ky l m k)) ∧ wr = W
theorem lv_cases {v : Int} (h : ¬ lvOk v) : v < 0 ∨ (¬ v < 0 ∧ 3 < v) := by unfold lvOk at h; omega
def rBox (log next seq : Nat) (va vg : Value) : Obj := .cells #[.int .u64 log, .int .u64 next, .int .u64 seq, va, vg] 62 (0, 0)
def RkRel (w : World) (o : Obj) (l : List Fil) (i : Value) (wr : World) : Prop := ∃ j : Nat, j ≤ l.length ∧ i = .int .i64 (j : Nat) ∧ Below (w.heap.size + 1) (w.alloc o) wr ∧ ∀ k (hk : k < l.length), k < j → chkA l[k] = 0
def RgRel (w : World) (o : Obj) (l : List Gon) (i : Value) (wr : World) : Prop := ∃ j : Nat, j ≤ l.length ∧ i = .int .i64 (j : Nat) ∧ Below (w.heap.size + 1) (w.alloc o) wr ∧ ∀ k (hk : k < l.length), k < j → lvOk l[k].level
theorem chkL_first : ∀ {l : List Fil} {j : Nat} (hj : j < l.length), (∀ k (hk : k < l.length), k < j → chkA l[k] = 0) → ¬ chkA l[j] = 0 → chkL l = chkA l[j]
  | a :: l, 0, _, _, h => by rw [chkL, if_neg (by simpa using h)]; rfl
  | a :: l, j + 1, hj, h1, h2 => by
    have e0 : chkA a = 0 := h1 0 (by simp) (by omega)
    rw [chkL, if_pos e0]
    exact chkL_first (l := l) (by simpa using hj) (fun k hk hkj => h1 (k + 1) (by simp; omega) (by omega)) (by simpa using h2)
theorem all_of {l : List Fil} (h : ∀ k (hk : k < l.length), k < l.length → chkA l[k] = 0) : ∀ a ∈ l, chkA a = 0 := fun a ha => by
  obtain ⟨k, hk, rfl⟩ := List.getElem_of_mem ha
  exact h k hk hk
set_option maxHeartbeats 4000000 in
set_option maxRecDepth 100000 in
theorem rcheck_any {e : Edt} {A G : Option Addr} (c d : Nat) {w : World} (H : Lies w e A G) :
    Calls Tryd.prog 14 #[e.val A c G d] w (QPost w (.int .i64 (chkE e))) := by
  obtain ⟨log, next, seq, come, go⟩ := e
  obtain ⟨RA, RG, ⟨_, _, _, oa, og⟩, la, lg⟩ := H
  simp only at *
  replace RA := Lib.hid RA
  replace RG := Lib.hid RG
  replace oa := Lib.hid oa
  replace og := Lib.hid og
  unfold Edt.val
  simp only
  by_cases h2 : 200 < come.length ∨ 200 < go.length
  · rw [show chkE ⟨log, next, seq, come, go⟩ = 6 from if_pos h2]
    by_cases h3 : 200 < come.length
    · go_enter Tryd.func14, Tryd.ntmps14
      go_wp2
      go_ret
      exact ⟨rfl, (Below.refl _ _).alloc (Nat.le_refl _) _⟩
    · have h4 : 200 < go.length := by omega
      go_enter Tryd.func14, Tryd.ntmps14
      go_wp2
      go_ret
      exact ⟨rfl, (Below.refl _ _).alloc (Nat.le_refl _) _⟩
  have hc2 : come.length ≤ 200 := by omega
  have hg2 : go.length ≤ 200 := by omega
  have EG : Hid (¬ chkL come = 0 → chkE ⟨log, next, seq, come, go⟩ = chkL come) := fun h => chkE_go (e := ⟨log, next, seq, come, go⟩) h2 h
  have EL : Hid (chkL come = 0 → chkE ⟨log, next, seq, come, go⟩ = if ∀ g ∈ go, lvOk g.level then 0 else 21) := fun h => by unfold chkE; rw [if_neg h2, if_pos h]
  clear h2
  go_enter Tryd.func14, Tryd.ntmps14
  go_wp2
  go_loopw [22] (RkRel w (.cells #[.int .u64 log, .int .u64 next, .int .u64 seq, .slice A come.length c, .slice G go.length d] 62 (0, 0)) come) (fun i _ => come.length - (intOf i).toNat)
  case atStart => exact ⟨0, by omega, rfl, Below.refl _ _, fun k _ h => by omega⟩
  case round =>
    obtain ⟨j, hj, rfl, hb, hall⟩ := hrel
    have HA := Lib.hid hall
    clear hall
    by_cases hlt : j < come.length
    · obtain ⟨a, rfl, hab, hca⟩ := RA.out (by omega)
      have hbl : (a.add (j * 6)).block < w.heap.size := by rw [block_add]; exact hab
      have hx := (hca j hlt).on hbl (box_below hb)
      have hok := oa.out _ (List.getElem_mem hlt)
      clear hca
      have HB := Lib.hid hb
      clear hb
      have HE : Hid (∀ z, chkA come[j] = z → ¬ z = 0 → chkE ⟨log, next, seq, come, go⟩ = z) := fun z hz h0 => by
        have h1 : ¬ chkA come[j] = 0 := by rw [hz]; exact h0
        have h2 := chkL_first hlt HA.out h1
        rw [EG.out (by rw [h2]; exact h1), h2, hz]
      have HN : Hid (chkA come[j] = 0 → ∀ k (hk : k < come.length), k < j + 1 → chkA come[k] = 0) := fun h0 k hk hkj => by
        by_cases e : k = j
        · subst e; exact h0
        · exact HA.out k hk (by omega)
      clear HA
      generalize come[j] = y at *
      obtain ⟨v, n, s, q, l, m⟩ := y
      obtain ⟨x0, x1, x2, x3, x4, x5⟩ := hx
      obtain ⟨_, _, o1, o2, o3, o4, o5⟩ := hok
      simp only at x0 x1 x2 x3 x4 x5 o1 o2 o3 o4 o5
      by_cases hv : lvOk v
      · have hv0 : ¬ v < 0 := by have := hv.1; omega
        have hv3 : ¬ 3 < v := by have := hv.2; omega
        replace hv := Lib.hid hv
        go_wp2
        go_loopw [42] (InRel l m ((wr.alloc (.cells #[.int .i64 v, .int .u64 n, .int .u64 s, .int .u64 q, .string l, .string m] 58 (0, 0))).alloc (.cells #[.string l, .string m] 9 (0, 0)))) (fun i _ => 2 - (intOf i).toNat)
        case atStart => exact ⟨0, by omega, rfl, fun k h => by omega, rfl⟩
        case round =>
          obtain ⟨i, hi, rfl, hky, rfl⟩ := hrel
          have hbz := ((box_below HB.out).alloc (box_below HB.out).size (.cells #[.int .i64 v, .int .u64 n, .int .u64 s, .int .u64 q, .string l, .string m] 58 (0, 0))).alloc (by have := (box_below HB.out).size; simp; omega) (.cells #[.string l, .string m] 9 (0, 0))
          replace hbz := Lib.hid hbz
          replace hky := Lib.hid hky
          rcases (show i = 0 ∨ i = 1 ∨ i = 2 by omega) with rfl | rfl | rfl
          · by_cases hl : kyOk l
            · have h1 : ¬ (l.size : Int) < 1 := by have := hl.1; omega
              have h2 : ¬ 200 < (l.size : Int) := by have := hl.2; omega
              have HK : Hid (∀ k, k < 1 → kyOk (ky l m k)) := fun k hk => by
                have : k = 0 := by omega
                subst this; exact hl
              clear hl
              go_wp2
              go_roundw
              case rel => exact ⟨1, by omega, by go_num, HK.out, rfl⟩
              case measure => simp [intOf]
            · have E := Lib.hid (HE.out 19 (by unfold chkA; rw [if_neg (not_not_intro hv.out)]; exact if_pos fun h => hl h.1) (by decide))
              have hw : l.size = 0 ∨ (¬ (l.size : Int) < 1 ∧ 200 < (l.size : Int)) := by unfold kyOk at hl; omega
              rcases hw with h0 | ⟨h0, h1⟩
              all_goals
                go_wp2
                go_ret
                exact ⟨by rw [E.out]; rfl, hbz.out⟩
          · by_cases hl : kyOk m
            · have h1 : ¬ (m.size : Int) < 1 := by have := hl.1; omega
              have h2 : ¬ 200 < (m.size : Int) := by have := hl.2; omega
              have HK : Hid (∀ k, k < 2 → kyOk (ky l m k)) := fun k hk => by
                by_cases e : k = 0
                · subst e; exact hky.out 0 (by omega)
                · have : k = 1 := by omega
                  subst this; exact hl
              clear hl
              go_wp2
              go_roundw
              case rel => exact ⟨2, by omega, by go_num, HK.out, rfl⟩
              case measure => simp [intOf]
            · have E := Lib.hid (HE.out 19 (by unfold chkA; rw [if_neg (not_not_intro hv.out)]; exact if_pos fun h => hl h.2.1) (by decide))
              have hw : m.size = 0 ∨ (¬ (m.size : Int) < 1 ∧ 200 < (m.size : Int)) := by unfold kyOk at hl; omega
              rcases hw with h0 | ⟨h0, h1⟩
              all_goals
                go_wp2
                go_ret
                exact ⟨by rw [E.out]; rfl, hbz.out⟩
          · have kl : kyOk l := hky.out 0 (by omega)
            have km : kyOk m := hky.out 1 (by omega)
            have HG := gtr_str l m
            cases hb : Op.bytesLess m.data.toList l.data.toList
            · have hb3 : Op.bytesLess m.toList l.toList = false := by rw [Lib.toList_data, Lib.toList_data]; exact hb
              by_cases hn : n = 0
              · have E := Lib.hid (HE.out 8 (by unfold chkA; rw [if_neg (not_not_intro hv.out), if_neg (not_not_intro ⟨kl, km, hb⟩)]; exact if_pos hn) (by decide))
                subst hn
                clear kl km hb HE HN hky
                go_wp2
                go_ret
                exact ⟨by rw [E.out]; rfl, hbz.out⟩
              · have h0 := HN.out (by unfold chkA; rw [if_neg (not_not_intro hv.out), if_neg (not_not_intro ⟨kl, km, hb⟩)]; exact if_neg hn)
                have hn' : ((n : Int) == 0) = false := by simp; omega
                replace h0 := Lib.hid h0
                clear kl km hb HE HN hky hn
                go_wp2
                go_roundw
                case rel => exact ⟨j + 1, by omega, by go_num, (HB.out.alloc (box_size HB.out) _).alloc (by have := box_size HB.out; simp; omega) _, h0.out⟩
                case measure => simp [intOf]; omega
            · have hb3 : Op.bytesLess m.toList l.toList = true := by rw [Lib.toList_data, Lib.toList_data]; exact hb
              have E := Lib.hid (HE.out 19 (by unfold chkA; rw [if_neg (not_not_intro hv.out)]; exact if_pos fun h => by rw [h.2.2] at hb; cases hb) (by decide))
              clear kl km hb HE HN hky
              go_wp2
              go_ret
              exact ⟨by rw [E.out]; rfl, hbz.out⟩
      · have E := Lib.hid (HE.out 21 (by unfold chkA; exact if_pos hv) (by decide))
        rcases lv_cases hv with h0 | ⟨h0, h1⟩
        all_goals
          go_wp2
          go_ret
          exact ⟨by rw [E.out]; rfl, (box_below HB.out).alloc (box_below HB.out).size _⟩
    · have hj2 : j = come.length := by omega
      subst hj2
      have EL2 := Lib.hid (EL.out (chkL_ok.2 (all_of HA.out)))
      obtain ⟨b0, b1, b2, b3, b4⟩ := box5 hb
      have HB := Lib.hid hb
      clear hb HA EL EG
      go_wp2
      go_loopw [70] (RgRel w (.cells #[.int .u64 log, .int .u64 next, .int .u64 seq, .slice A come.length c, .slice G go.length d] 62 (0, 0)) go) (fun i _ => go.length - (intOf i).toNat)
      case atStart => exact ⟨0, by omega, rfl, HB.out, fun k _ h => by omega⟩
      case round =>
        obtain ⟨j, hj, rfl, hb, hall⟩ := hrel
        have HA := Lib.hid hall
        clear hall HB
        by_cases hlt : j < go.length
        · obtain ⟨a, rfl, hab, hca⟩ := RG.out (by omega)
          have hbl : (a.add (j * 2)).block < w.heap.size := by rw [block_add]; exact hab
          obtain ⟨x0, x1⟩ := (hca j hlt).on hbl (box_below hb)
          clear hca
          have HB := Lib.hid hb
          clear hb
          by_cases hv : lvOk go[j].level
          · have HN : Hid (∀ k (hk : k < go.length), k < j + 1 → lvOk go[k].level) := fun k hk hkj => by
              by_cases e : k = j
              · subst e; exact hv
              · exact HA.out k hk (by omega)
            clear HA
            generalize go[j] = y at *
            have hv0 : ¬ y.level < 0 := by have := hv.1; omega
            have hv3 : ¬ 3 < y.level := by have := hv.2; omega
            replace hv := Lib.hid hv
            go_wp2
            go_roundw
            case rel => exact ⟨j + 1, by omega, by go_num, HB.out.alloc (box_size HB.out) _, HN.out⟩
            case measure => simp [intOf]; omega
          · have E : Hid (chkE ⟨log, next, seq, come, go⟩ = 21) := EL2.out.trans (if_neg fun h => hv (h _ (List.getElem_mem hlt)))
            clear HA
            generalize go[j] = y at *
            rcases lv_cases hv with h0 | ⟨h0, h1⟩
            all_goals
              go_wp2
              go_ret
              exact ⟨by rw [E.out]; rfl, (box_below HB.out).alloc (box_below HB.out).size _⟩
        · have hj2 : j = go.length := by omega
          have E : Hid (chkE ⟨log, next, seq, come, go⟩ = 0) := EL2.out.trans (if_pos fun g hg => by
            obtain ⟨k, hk, rfl⟩ := List.getElem_of_mem hg
            exact HA.out k hk (by omega))
          subst hj2
          have HB := Lib.hid (box_below hb)
          clear hb HA
          go_wp2
          go_ret
          exact ⟨by rw [E.out]; rfl, HB.out⟩
end Go.Proofs.YtkocekogkpemiaaDoor.Ed
