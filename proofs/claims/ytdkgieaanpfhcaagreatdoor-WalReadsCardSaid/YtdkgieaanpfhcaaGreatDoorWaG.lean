/-
  The document's own batches held against one another; the law's 'to'. Conditions: as each theorem states.
-/
import Derived.Test.YtdkgieaanpfhcaaGreatDoorWaF
import Derived.Test.YtdkgieaanpfhcaaGreatDoorGaBa
namespace Go.Proofs.YtdkgieaanpfhcaaGreatDoor.Wa
open Go.RowKit
open Go.Proofs.YtdkgieaanpfhcaaGreatDoor
open Vi Ba

theorem neq_chg (c : Chg) (w : World) : (binOp .neq 63 (.agg #[.int .i64 c.kind, .string c.key, .string c.value]) (.agg #[.int .i64 c.kind, .string c.key, .string c.value])).run Tryz.prog w = .ok (.bool false) w := by
  go_simp
def BoPost (w : World) (b : Bool) (e : Ending) (w' : World) : Prop := e = .returned (.bool b) ∧ Below w.heap.size w w'
def LiRel (w : World) (k : Nat) (i : Value) (wr : World) : Prop := ∃ j : Nat, j ≤ k ∧ i = .int .i64 (j : Nat) ∧ Below w.heap.size w wr
set_option maxRecDepth 100000 in
set_option maxHeartbeats 1000000 in
theorem same6_yes {w : World} {A A2 : Option Addr} {c c2 : Nat} {l : List Chg} (hl : l.length ≤ 100000) (ha : CRow w A l) (hb : CRow w A2 l) :
    Calls Tryz.prog 33 #[.slice A l.length c, .slice A2 l.length c2] w (BoPost w true) := by
  replace ha := Lib.hid ha
  replace hb := Lib.hid hb
  go_enter Tryz.func33, Tryz.ntmps33
  go_wp2
  go_loopw [13] (LiRel w l.length) (fun i _ => l.length - (intOf i).toNat)
  case atStart => exact ⟨0, by omega, rfl, Below.refl _ _⟩
  case round =>
    obtain ⟨j, hj, rfl, hbw⟩ := hrel
    by_cases hlt : j < l.length
    · obtain ⟨a, rfl, hab, hca⟩ := (ha.out.on hbw) (by omega)
      obtain ⟨x0, x1, x2⟩ := hca j hlt
      obtain ⟨a2, rfl, hab2, hca2⟩ := (hb.out.on hbw) (by omega)
      obtain ⟨y0, y1, y2⟩ := hca2 j hlt
      clear hca hca2
      have hnp := neq_chg l[j]
      generalize l[j] = y at *
      go_wp2
      go_region
      all_goals go_wp2
      all_goals exact ⟨⟨j + 1, by omega, by go_num, hbw.trans ⟨rfl, rfl, rfl, Nat.le_refl _, fun _ _ => rfl⟩⟩, by simp [intOf]; omega⟩
    · go_wp2
      go_ret
      exact ⟨rfl, hbw⟩
/-- how a row of batches is read -/
def BRd (W : World) (A : Option Addr) (xs : List BX) : Prop := 0 < xs.length → ∃ g, A = some ⟨g, 0, none⟩ ∧ g < W.heap.size ∧ ∀ i (hi : i < xs.length), W.cell? ⟨g, i * 2, none⟩ = some (.int .u64 xs[i].1.seq) ∧ W.cell? ⟨g, i * 2 + 1, none⟩ = some (.slice xs[i].2.1 xs[i].1.l.length xs[i].2.2) ∧ CRow W xs[i].2.1 xs[i].1.l
theorem crow_at {w : World} {B : Nat} {A : Option Addr} {n c : Nat} {l : List Chg} (h : w.ownsRow B 63 3 (.slice A n c) l.length (cCells l)) : CRow w A l := by
  obtain ⟨A', c', e, R⟩ := crow_of_owns h
  injection e with e1
  subst e1
  exact R
theorem BIn.read {b : Nat} {t : TypeId} {W : World} {A : Option Addr} {c : Nat} {xs : List BX} (h : BIn b t W (.slice A xs.length c) xs) : BRd W A xs := fun h0 => by
  obtain ⟨g, e, hg, hc⟩ := h.at h0
  exact ⟨g, e, hg, fun i hi => ⟨(hc i hi).1, (hc i hi).2, crow_at (h.lies _ (List.getElem_mem hi))⟩⟩
theorem BRd.on {W W' : World} {A : Option Addr} {xs : List BX} (h : BRd W A xs) (hb : Below W.heap.size W W') : BRd W' A xs := fun h0 => by
  obtain ⟨g, e, hg, hc⟩ := h h0
  have hz := hb.size
  refine ⟨g, e, by omega, fun i hi => ?_⟩
  obtain ⟨c0, c1, c2⟩ := hc i hi
  exact ⟨(hb.cell (p := ⟨g, i * 2, none⟩) hg).trans c0, (hb.cell (p := ⟨g, i * 2 + 1, none⟩) hg).trans c1, c2.on hb⟩
theorem fst_at {xs ys : List BX} (h : xs.map Prod.fst = ys.map Prod.fst) {j : Nat} (hx : j < xs.length) (hy : j < ys.length) : xs[j].1 = ys[j].1 := by
  have := congrArg (fun l => l[j]?) h
  simpa [hx, hy] using this
/-- four cells of two rows -/
abbrev C4 (g g2 j : Nat) (x y z : Value) (W : World) : Prop := W.cell? ⟨g, j * 2, none⟩ = some x ∧ W.cell? ⟨g, j * 2 + 1, none⟩ = some y ∧ W.cell? ⟨g2, j * 2, none⟩ = some x ∧ W.cell? ⟨g2, j * 2 + 1, none⟩ = some z
theorem cell_lt {w : World} {p : Addr} {v : Value} (h : w.cell? p = some v) : p.block < w.heap.size := by
  rcases Nat.lt_or_ge p.block w.heap.size with h' | h'
  · exact h'
  · unfold World.cell? at h
    rw [Array.getElem?_eq_none h'] at h
    simp at h
theorem keep4 {g g2 j : Nat} {x y z : Value} {W W' : World} (hb : Below W.heap.size W W') (h : C4 g g2 j x y z W) : C4 g g2 j x y z W' := by
  have h1 := cell_lt h.1
  have h2 := cell_lt h.2.2.1
  exact ⟨(hb.cell (p := ⟨g, j * 2, none⟩) h1).trans h.1, (hb.cell (p := ⟨g, j * 2 + 1, none⟩) h1).trans h.2.1, (hb.cell (p := ⟨g2, j * 2, none⟩) h2).trans h.2.2.1, (hb.cell (p := ⟨g2, j * 2 + 1, none⟩) h2).trans h.2.2.2⟩
set_option maxRecDepth 100000 in
set_option maxHeartbeats 2000000 in
theorem same16_yes {w : World} {A A2 : Option Addr} {c c2 : Nat} {xs ys : List BX} (hl : xs.length ≤ 1000000) (hll : ∀ x ∈ xs, x.1.l.length ≤ 100000) (he : xs.map Prod.fst = ys.map Prod.fst) (ha : BRd w A xs) (hb : BRd w A2 ys) :
    Calls Tryz.prog 9 #[.slice A xs.length c, .slice A2 ys.length c2] w (BoPost w true) := by
  have hlen : ys.length = xs.length := by have := congrArg List.length he; simpa using this.symm
  replace ha := Lib.hid ha
  replace hb := Lib.hid hb
  replace hll := Lib.hid hll
  replace he := Lib.hid he
  rw [hlen]
  go_enter Tryz.func9, Tryz.ntmps9
  go_wp2
  go_loopw [13] (LiRel w xs.length) (fun i _ => xs.length - (intOf i).toNat)
  case atStart => exact ⟨0, by omega, rfl, Below.refl _ _⟩
  case round =>
    obtain ⟨j, hj, rfl, hbw⟩ := hrel
    by_cases hlt : j < xs.length
    · have hlt2 : j < ys.length := by omega
      obtain ⟨g, rfl, hab, hca⟩ := (ha.out.on hbw) (by omega)
      obtain ⟨x0, x1, x2⟩ := hca j hlt
      obtain ⟨g2, rfl, hab2, hca2⟩ := (hb.out.on hbw) (by omega)
      obtain ⟨y0, y1, y2⟩ := hca2 j hlt2
      have h1 := hll.out _ (List.getElem_mem hlt)
      have h2 := fst_at he.out hlt hlt2
      clear hca hca2
      generalize xs[j] = x at *
      generalize ys[j] = y at *
      obtain ⟨⟨q, l⟩, A3, c3⟩ := x
      obtain ⟨⟨q2, l2⟩, A4, c4⟩ := y
      injection h2 with h2 h3
      subst h2 h3
      simp only at x0 x1 y0 y1 h1
      have X2 := Lib.hid (And.intro x2 y2)
      have HB := Lib.hid hbw
      clear x2 y2 hbw
      go_wp2
      go_region_held3 (fun wx => wx.cell? ⟨g, j * 2, none⟩ = some (.int .u64 q) ∧ wx.cell? ⟨g, j * 2 + 1, none⟩ = some (.slice A3 l.length c3) ∧ wx.cell? ⟨g2, j * 2, none⟩ = some (.int .u64 q) ∧ wx.cell? ⟨g2, j * 2 + 1, none⟩ = some (.slice A4 l.length c4)) (first | go_keep | (refine keep4 ‹Below _ _ _› ?_; assumption))
        (first
          | (go_at_call 33; (refine (same6_yes h1 (X2.out.1.on (Below.refl _ _).drew) (X2.out.2.on (Below.refl _ _).drew)).mono ?_); rintro e w4 ⟨rfl, hb4⟩))
      go_wp2
      go_roundw
      case rel => exact ⟨j + 1, by omega, by go_num, HB.out.trans (((Below.refl _ _).drew.trans hb4).mono HB.out.size)⟩
      case measure => simp [intOf]; omega
    · go_wp2
      go_ret
      exact ⟨rfl, hbw⟩
def ToRel (w : World) (xs : List BX) (vv iv : Value) (W : World) : Prop :=
  ∃ k : Nat, iv = .int .i64 k ∧ k ≤ xs.length ∧ BIn w.heap.size 68 W vv (xs.take k) ∧ Below w.heap.size w W
set_option maxRecDepth 100000 in
set_option maxHeartbeats 2000000 in
theorem to_any {w : World} {b : Nat} {A : Option Addr} {c : Nat} {xs : List BX} (hl : xs.length ≤ 1000000) (h : BIn b 32 w (.slice A xs.length c) xs) :
    Calls Tryz.prog 10 #[.slice A xs.length c] w fun e w' => ∃ v, e = .returned v ∧ BIn w.heap.size 68 w' v xs ∧ Below w.heap.size w w' := by
  obtain ⟨i0, hi, hz0, hz1, hz2⟩ := info_parts infoB16
  have HI := Lib.hid (And.intro hi (And.intro hz0 (And.intro hz1 hz2)))
  clear hi hz0 hz1 hz2
  have HL := Lib.hid h.lies
  replace h := Lib.hid h.read
  go_enter Tryz.func10, Tryz.ntmps10
  go_wp2
  go_loopw [3, 8] (ToRel w xs) (fun _ iv _ => xs.length - (intOf iv).toNat)
  case atStart => exact ⟨0, rfl, by omega, BIn.nil _ _ _, Below.refl _ _⟩
  case round =>
    obtain ⟨k, rfl, hk, hq, hbw⟩ := hrel
    obtain ⟨A1, c1, rfl⟩ := hq.slice
    have htl : (xs.take k).length = k := by simp; omega
    rw [htl] at hq ⊢
    by_cases hlt : k < xs.length
    · obtain ⟨g, rfl, hab, hca⟩ := (h.out.on hbw) (by omega)
      obtain ⟨x0, x1, x2⟩ := hca k hlt
      have hx := HL.out _ (List.getElem_mem hlt)
      have htk : xs.take (k + 1) = xs.take k ++ [xs[k]] := by rw [List.take_add_one, List.getElem?_eq_getElem hlt]; rfl
      have HTK := Lib.hid htk
      have HX := Lib.hid (And.intro hq (And.intro hbw ((KT.below (ts := [63]) (hbw.mono (Nat.le_refl _))).row (by decide) hx)))
      have hz := hbw.size
      clear hca hq htk hx x2
      generalize xs[k] = x at *
      obtain ⟨⟨q, l⟩, A3, c3⟩ := x
      simp only at x0 x1
      generalize xs.take k = pre at *
      go_wp2_with (first
        | (at_builtin
           have hal : Below wr.heap.size wr ((wr.alloc (.cells #[.int .u64 q, .slice A3 l.length c3] 32)).alloc (.cells #[.int .u64 q, .slice A3 l.length c3] 68)) := ((Below.refl _ _).alloc (Nat.le_refl _) _).alloc (by simp) _
           have Q5 := Lib.hid (HX.out.1.kept (ts := [68, 63]) (KT.below hal) (by decide) (by decide))
           refine wpList_append_own _ rfl (.tmp 12) (.tmp 14) 23 rfl w.heap.size 68 i0 _ 2 32 Tryz.underlying23 HI.out.1 HI.out.2.1 HI.out.2.2.1 HI.out.2.2.2 rfl (by decide) (.slice A1 k c1) k (bCells pre) rfl (by have := Q5.out.own; rw [htl] at this; exact this) ⟨_, 0, none⟩ 1 1 (BX.cells (⟨q, l⟩, A3, c3)) rfl rfl (news2k _ _ (by simp) _ _ _) (by simp [BX.cells, Value.oneCell']) (by unfold maxLen; omega) (by omega) (by simp; omega) ?_
           intro v9 w9 hown hgr _
           have Q9 : Hid (BIn w.heap.size 68 w9 v9 (pre ++ [(⟨q, l⟩, A3, c3)]) ∧ Below w.heap.size w w9) := ⟨Q5.out.push ((KT.below (ts := [63]) hal).row (by decide) HX.out.2.2) hgr (by rw [htl]; exact hown) (by decide), below_grown_row (HX.out.2.1.trans (hal.mono hz)) hgr (fun r e => (Q5.out.own.lt r e).1) (by simp; omega)⟩
           clear hown hgr hal))
      go_roundw
      case rel => exact ⟨k + 1, by go_num, by omega, by rw [HTK.out]; exact Q9.out.1, Q9.out.2⟩
      case measure => simp [intOf]; omega
    · obtain rfl : k = xs.length := by omega
      rw [List.take_of_length_le (Nat.le_refl _)] at hq
      go_wp2
      go_ret
      exact ⟨_, rfl, hq, hbw⟩
end Go.Proofs.YtdkgieaanpfhcaaGreatDoor.Wa
