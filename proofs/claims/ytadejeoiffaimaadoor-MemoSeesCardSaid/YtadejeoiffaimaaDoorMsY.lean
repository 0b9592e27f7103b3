/-
  The law MemoSees walked. Conditions: as each theorem states.
-/
import Derived.Test.YtadejeoiffaimaaDoorMsC
import Derived.Carry
import Derived.Deep.RegionHeld3
namespace Go.Proofs.YtadejeoiffaimaaDoor.Me
open Go.RowKit Go.Shelf Go.Maps
open Vi
open Go.Proofs.YtadejeoiffaimaaDoor.Sk (feet Lst Moves Only NRow)

theorem s8b {W : World} {g h : Nat} {y z : En} (hX : W.heap[g]? = some (.cells #[.string y.key, .int .u64 y.seq, .int .i64 y.kind, .string y.val] 30 (0, 0))) (hY : W.heap[h]? = some (.cells #[.string z.key, .int .u64 z.seq, .int .i64 z.kind, .string z.val] 30 (0, 0))) :
    W.cell? ⟨g, 0, none⟩ = some (.string y.key) ∧ W.cell? ⟨g, 1, none⟩ = some (.int .u64 y.seq) ∧ W.cell? ⟨g, 2, none⟩ = some (.int .i64 y.kind) ∧ W.cell? ⟨g, 3, none⟩ = some (.string y.val) ∧
      W.cell? ⟨h, 0, none⟩ = some (.string z.key) ∧ W.cell? ⟨h, 1, none⟩ = some (.int .u64 z.seq) ∧ W.cell? ⟨h, 2, none⟩ = some (.int .i64 z.kind) ∧ W.cell? ⟨h, 3, none⟩ = some (.string z.val) := by
  obtain ⟨z0, z1, z2, z3⟩ := box4 hX
  obtain ⟨k0, k1, k2, k3⟩ := box4 hY
  exact ⟨z0, z1, z2, z3, k0, k1, k2, k3⟩
def LoopC (w : World) (b lo : Nat) (v : Value) (E : List En) (n : Nat) (m : Int) (g r k : Nat) (mp : ByteArray → Option En) (_u : Value) (wr : World) : Prop := ∃ cnt, TR w b lo v E n m g r k mp cnt wr
set_option maxRecDepth 100000 in
set_option maxHeartbeats 8000000 in
theorem sees_main {w : World} {A A2 : Option Addr} {c c2 : Nat} {l more : List En} (at_ : Nat) (m : Int) (RA : Hid (ERow w A l)) (RB : Hid (ERow w A2 more)) (hl : l.length ≤ 60) (hml : more.length ≤ 60) (hat : at_ < 18446744073709551616) (hok : ∀ x ∈ l, okE l.length 60 x ∧ x.big) (hok2 : ∀ x ∈ more, okE more.length 60 x ∧ x.big) (hm : w.cell? ⟨0, 0, none⟩ = some (.int .i64 m)) :
    Calls Tryd.prog 3 #[.slice A l.length c, .slice A2 more.length c2, .int .u64 at_] w (LightE w true) := by
  have HO := Lib.hid hok
  have HO2 : Hid (∀ x ∈ l, okE l.length 60 x) := fun x hx => (hok x hx).1
  have HP := Lib.hid hok2
  have HP2 : Hid (∀ x ∈ more, okE more.length 60 x) := fun x hx => (hok2 x hx).1
  have HM := Lib.hid hm
  have HAT := Lib.hid hat
  have hw0 : 0 < w.heap.size := cell_lt hm
  clear hok hok2 hm hat
  go_enter Tryd.func3, Tryd.ntmps3
  have tok : True := trivial
  have hmm := @run_makeMap Tryd.prog
  go_wp2_with (first
    | (go_at_call 5; (with_reducible refine (awake_any _ m HM.out).mono ?_); rintro e w1 ⟨rfl, b1⟩; have B1 := Lib.hid b1; clear b1)
    | (go_at_call 6; have _t := tok; (with_reducible refine (light_all (m := 60) (mi := 60) rfl (erow_on RA B1.out) (by omega) (by decide) HO2.out).mono ?_); rintro e w2 ⟨rfl, b2⟩; have B2 := Lib.hid (B1.out.trans (b2.mono B1.out.size)); clear b2 tok)
    | (go_at_call 6; (with_reducible refine (light_all (m := 60) (mi := 60) rfl (erow_on RB B2.out) (by omega) (by decide) HP2.out).mono ?_); rintro e w3 ⟨rfl, b3⟩; have B3 := Lib.hid (B2.out.trans (b3.mono B2.out.size)); have M3 : Hid (w3.cell? ⟨0, 0, none⟩ = some (.int .i64 m)) := (B3.out.cell (p := ⟨0, 0, none⟩) hw0).trans HM.out; clear b3)
    | (go_at_call 7; refine (new_any m M3.out).mono ?_; rintro e w4 ⟨b, lo, rfl, h4, hf4, b4⟩; have T0 := Lib.hid (TS.start B3.out h4 hf4 b4 hw0); clear h4 hf4 b4))
  clear M3 hmm
  go_loopw [36] (LoopA w b lo m w4.heap.size at_ l.length) (fun i _ => l.length - (intOf i).toNat)
  case atStart => exact ⟨0, 0, 0, _, [], _, by omega, rfl, by omega, by omega, T0.out, noted_none at_⟩
  case round =>
    obtain ⟨j, n, k, v, E, mp, hj, rfl, hn, hk, T, hN⟩ := hrel
    replace T := Lib.hid T
    replace hN := Lib.hid hN
    clear T0
    by_cases hlt : j < l.length
    · -- an entry more
      obtain ⟨a, rfl, hab, hca⟩ := RA.out (by omega)
      obtain ⟨x0, x1, x2, x3⟩ := hca j hlt
      obtain ⟨⟨o1, o2, o3⟩, o4⟩ := HO.out l[j] (List.getElem_mem hlt)
      have hbl : (a.add (j * 4)).block < w.heap.size := by rw [block_add]; exact hab
      rw [← T.out.below.cell (p := a.add (j * 4)) hbl] at x0
      rw [← T.out.below.cell (p := ⟨(a.add (j * 4)).block, (a.add (j * 4)).off + 1, none⟩) hbl] at x1
      rw [← T.out.below.cell (p := ⟨(a.add (j * 4)).block, (a.add (j * 4)).off + 2, none⟩) hbl] at x2
      rw [← T.out.below.cell (p := ⟨(a.add (j * 4)).block, (a.add (j * 4)).off + 3, none⟩) hbl] at x3
      have O4 := Lib.hid o4
      clear hca hbl o4
      generalize l[j] = y at *
      have X0 := Lib.hid (e_box (W := wr) y 30)
      have TX := Lib.hid (T.out.bel ((Below.refl _ wr).alloc (Nat.le_refl _) (.cells #[.string y.key, .int .u64 y.seq, .int .i64 y.kind, .string y.val] 30)))
      obtain ⟨z0, z1, z2, z3⟩ := box4 X0.out
      have hinf := ent_info
      have HXF : Hid (wr.heap.size ∉ mfeet b lo v) := fun hm => by have := T.out.mem.lt _ hm; omega
      by_cases hgd : chkE y = 0
      · have HY := Lib.hid (good_chk hgd)
        cases hr : rgetE (addE E y) y.key at_ with
        | none =>
          obtain ⟨ye, hye⟩ : ∃ ye, (rgetE (addE E y) y.key at_).getD noEn = ye := ⟨_, rfl⟩
          have HYE := Lib.hid hye
          have HYB : Hid ((rgetE (addE E y) y.key at_).isSome = false) := by rw [Hid, hr]; rfl
          have HN2 := Lib.hid (noted_no hN.out T.out.mem.good HY.out T.out.sorted hr)
          clear hr hgd hye
          go_wp2_with (first
            | (go_at_call 8; refine (add_any TX.out.mem y HY.out (by omega) (by omega) _).mono ?_; rintro r w5 ⟨rfl, v5, n5, h5, hn5, m5⟩; have T5 := Lib.hid (TX.out.moved h5 m5); have X5 := Lib.hid (TX.out.block m5 X0.out HXF.out); have HXF5 : Hid (wr.heap.size ∉ mfeet b lo v5) := (fun hm => by rcases m5.fresh _ hm with h | h; exact HXF.out h; rw [World.size_alloc] at h; omega); obtain ⟨p0, p1, p2, p3⟩ := box4 X5.out; clear h5 m5)
            | (go_at_call 9; refine (get_s T5.out y.key at_ (by omega) HAT.out HYE.out HYB.out).mono ?_; rintro r w6 ⟨rfl, t6, m6⟩; have T6 := Lib.hid (t6.bel ((Below.refl _ w6).alloc (Nat.le_refl _) (.cells #[.string ye.key, .int .u64 ye.seq, .int .i64 ye.kind, .string ye.val] 30))); have X6 := Lib.hid (old_alloc (T5.out.block m6 X5.out HXF5.out) (.cells #[.string ye.key, .int .u64 ye.seq, .int .i64 ye.kind, .string ye.val] 30)); have Y6 := Lib.hid (e_box (W := w6) ye 30); obtain ⟨q0, q1, q2, q3⟩ := box4 X6.out; obtain ⟨u0, u1, u2, u3⟩ := box4 Y6.out; clear t6 m6))
          go_roundw
          case rel => exact ⟨j + 1, n5, k, v5, addE E y, mp, by omega, by go_num, by omega, by omega, T6.out, HN2.out⟩
          case measure => simp [intOf]; omega
        | some ye =>
          have HYE : Hid ((rgetE (addE E y) y.key at_).getD noEn = ye) := by rw [Hid, hr]; rfl
          have HYB : Hid ((rgetE (addE E y) y.key at_).isSome = true) := by rw [Hid, hr]; rfl
          have HN2 := Lib.hid (noted_yes hN.out T.out.mem.good HY.out T.out.sorted hr)
          clear hr hgd
          go_wp2_with (first
            | (go_at_call 8; refine (add_any TX.out.mem y HY.out (by omega) (by omega) _).mono ?_; rintro r w5 ⟨rfl, v5, n5, h5, hn5, m5⟩; have T5 := Lib.hid (TX.out.moved h5 m5); have X5 := Lib.hid (TX.out.block m5 X0.out HXF.out); have HXF5 : Hid (wr.heap.size ∉ mfeet b lo v5) := (fun hm => by rcases m5.fresh _ hm with h | h; exact HXF.out h; rw [World.size_alloc] at h; omega); obtain ⟨p0, p1, p2, p3⟩ := box4 X5.out; clear h5 m5)
            | (go_at_call 9; refine (get_s T5.out y.key at_ (by omega) HAT.out HYE.out HYB.out).mono ?_; rintro r w6 ⟨rfl, t6, m6⟩; have T6 := Lib.hid (t6.bel ((Below.refl _ w6).alloc (Nat.le_refl _) (.cells #[.string ye.key, .int .u64 ye.seq, .int .i64 ye.kind, .string ye.val] 30))); have X6 := Lib.hid (old_alloc (T5.out.block m6 X5.out HXF5.out) (.cells #[.string ye.key, .int .u64 ye.seq, .int .i64 ye.kind, .string ye.val] 30)); have Y6 := Lib.hid (e_box (W := w6) ye 30); obtain ⟨q0, q1, q2, q3⟩ := box4 X6.out; obtain ⟨u0, u1, u2, u3⟩ := box4 Y6.out; obtain ⟨w7, E7, M7, g7⟩ := emap_put T6.out.map (by unfold maxLen; omega) (s := y.key) (by unfold maxLen; omega) ye; have T7 := Lib.hid (T6.out.put M7 g7); clear M7 g7; clear t6 m6))
          go_roundw
          case rel => exact ⟨j + 1, n5, k + 1, v5, addE E y, _, by omega, by go_num, by omega, by omega, T7.out, HN2.out⟩
          case measure => simp [intOf]; omega
      · have HAB := Lib.hid (fun (W : World) (height : Int) => add_bad (w := W) b y hgd height)
        have hc0 : ((chkE y) == 0) = false := by simpa using hgd
        generalize chkE y = ce at HAB hc0
        clear hgd
        go_wp2_with (first
          | (go_at_call 8; refine (HAB.out _ _).mono ?_; rintro r w5 ⟨rfl, b5⟩; have T5 := Lib.hid (TX.out.bel b5); clear b5))
        go_roundw
        case rel => exact ⟨j + 1, n, k, v, E, mp, by omega, by go_num, by omega, by omega, T5.out, hN.out⟩
        case measure => simp [intOf]; omega
    · -- the first row is done
      go_wp2
      go_loopw [63] (LoopB w b lo m w4.heap.size at_ k more.length mp) (fun i _ => more.length - (intOf i).toNat)
      case atStart => exact ⟨0, n, v, E, by omega, rfl, by omega, T.out, hN.out⟩
      case round =>
        clear T hN hn
        obtain ⟨j2, n, v, E, hj2, rfl, hn, T, hN⟩ := hrel
        replace T := Lib.hid T
        replace hN := Lib.hid hN
        clear hj hlt
        by_cases hlt : j2 < more.length
        · -- an entry of the second row
          obtain ⟨a, rfl, hab, hca⟩ := RB.out (by omega)
          obtain ⟨x0, x1, x2, x3⟩ := hca j2 hlt
          obtain ⟨⟨o1, o2, o3⟩, o4⟩ := HP.out more[j2] (List.getElem_mem hlt)
          have hbl : (a.add (j2 * 4)).block < w.heap.size := by rw [block_add]; exact hab
          rw [← T.out.below.cell (p := a.add (j2 * 4)) hbl] at x0
          rw [← T.out.below.cell (p := ⟨(a.add (j2 * 4)).block, (a.add (j2 * 4)).off + 1, none⟩) hbl] at x1
          rw [← T.out.below.cell (p := ⟨(a.add (j2 * 4)).block, (a.add (j2 * 4)).off + 2, none⟩) hbl] at x2
          rw [← T.out.below.cell (p := ⟨(a.add (j2 * 4)).block, (a.add (j2 * 4)).off + 3, none⟩) hbl] at x3
          have O4 := Lib.hid o4
          clear hca hbl o4
          generalize more[j2] = y at *
          have X0 := Lib.hid (e_box (W := wr) y 30)
          have TX := Lib.hid (T.out.bel ((Below.refl _ wr).alloc (Nat.le_refl _) (.cells #[.string y.key, .int .u64 y.seq, .int .i64 y.kind, .string y.val] 30)))
          obtain ⟨z0, z1, z2, z3⟩ := box4 X0.out
          have hinf := ent_info
          have HXF : Hid (wr.heap.size ∉ mfeet b lo v) := fun hm => by have := T.out.mem.lt _ hm; omega
          by_cases hsq : at_ < y.seq
          · have hd : decide ((at_ : Int) < (y.seq : Int)) = true := by simp; omega
            by_cases hgd : chkE y = 0
            · have HY := Lib.hid (good_chk hgd)
              have HN2 := Lib.hid (noted_seq hN.out T.out.mem.good HY.out T.out.sorted hsq)
              clear hgd
              go_wp2_with (first
                | (go_at_call 8; refine (add_any TX.out.mem y HY.out (by omega) (by omega) _).mono ?_; rintro r w5 ⟨rfl, v5, n5, h5, hn5, m5⟩; have T5 := Lib.hid (TX.out.moved h5 m5); have X5 := Lib.hid (TX.out.block m5 X0.out HXF.out); have HXF5 : Hid (wr.heap.size ∉ mfeet b lo v5) := (fun hm => by rcases m5.fresh _ hm with h | h; exact HXF.out h; rw [World.size_alloc] at h; omega); obtain ⟨p0, p1, p2, p3⟩ := box4 X5.out; clear h5 m5))
              go_roundw
              case rel => exact ⟨j2 + 1, n5, v5, addE E y, by omega, by go_num, by omega, T5.out, HN2.out⟩
              case measure => simp [intOf]; omega
            · have HAB := Lib.hid (fun (W : World) (height : Int) => add_bad (w := W) b y hgd height)
              generalize chkE y = ce at HAB
              clear hgd
              go_wp2_with (first
                | (go_at_call 8; refine (HAB.out _ _).mono ?_; rintro r w5 ⟨rfl, b5⟩; have T5 := Lib.hid (TX.out.bel b5); clear b5))
              go_roundw
              case rel => exact ⟨j2 + 1, n, v, E, by omega, by go_num, by omega, T5.out, hN.out⟩
              case measure => simp [intOf]; omega
          · have hd : decide ((at_ : Int) < (y.seq : Int)) = false := by simp; omega
            go_wp2
            go_roundw
            case rel => exact ⟨j2 + 1, n, v, E, by omega, by go_num, by omega, TX.out, hN.out⟩
            case measure => simp [intOf]; omega
        · -- the second row is done
          go_wp2_with (first
            | (at_range; refine range_em rfl _ rfl rfl T.out.map ?_; intro wR cntR hrg hgr hsz; have R0 := Lib.hid (TR.start T.out hrg hgr hsz); clear hrg hgr hsz))
          go_frame
          go_loopw [77] (LoopC w b lo v E n m w4.heap.size wr.heap.size k mp) (fun _ wx => wx.rangeLeft w4.heap.size wr.heap.size)
          case atStart => exact ⟨_, R0.out⟩
          case round =>
            obtain ⟨cnt, R⟩ := hrel
            replace R := Lib.hid R
            clear R0 T
            go_wp2_with (first
              | (at_next; refine next_em rfl _ rfl rfl R.out.ran ?_ ?_))
            · -- nothing is left
              intro _
              go_wp2
              go_loopw [104] (LiE w l.length) (fun i _ => l.length - (intOf i).toNat)
              case atStart => exact ⟨0, by omega, rfl, R.out.below⟩
              case round =>
                obtain ⟨j3, hj3, rfl, b0⟩ := hrel
                have B0 := Lib.hid b0
                clear b0 R hlt hj2
                by_cases hlt3 : j3 < l.length
                · obtain ⟨a, rfl, hab, hca⟩ := RA.out (by omega)
                  obtain ⟨x0, x1, x2, x3⟩ := hca j3 hlt3
                  obtain ⟨⟨o1, o2, o3⟩, o4⟩ := HO.out l[j3] (List.getElem_mem hlt3)
                  have hbl : (a.add (j3 * 4)).block < w.heap.size := by rw [block_add]; exact hab
                  rw [← B0.out.cell (p := a.add (j3 * 4)) hbl] at x0
                  rw [← B0.out.cell (p := ⟨(a.add (j3 * 4)).block, (a.add (j3 * 4)).off + 1, none⟩) hbl] at x1
                  rw [← B0.out.cell (p := ⟨(a.add (j3 * 4)).block, (a.add (j3 * 4)).off + 2, none⟩) hbl] at x2
                  rw [← B0.out.cell (p := ⟨(a.add (j3 * 4)).block, (a.add (j3 * 4)).off + 3, none⟩) hbl] at x3
                  clear hca hbl o4
                  generalize l[j3] = y at *
                  generalize wr = wz at *
                  have X0 := Lib.hid (e_box (W := wz) y 30)
                  have BX := Lib.hid (B0.out.trans (((Below.refl _ wz).alloc (Nat.le_refl _) (.cells #[.string y.key, .int .u64 y.seq, .int .i64 y.kind, .string y.val] 30)).mono B0.out.size))
                  obtain ⟨z0, z1, z2, z3⟩ := box4 X0.out
                  have hinf := ent_info
                  have HKS : Hid (y.key.size ≤ 281474976710656) := by rw [Hid]; omega
                  by_cases hk1 : 1 ≤ y.kind
                  · by_cases hk2 : y.kind ≤ 2
                    · have hkk : y.kind = 1 ∨ y.kind = 2 := by omega
                      have hle := least_at hkk at_
                      obtain ⟨oe, hoe⟩ : ∃ oe, ordE ⟨y.key, at_, 255, ⟨#[]⟩⟩ y = oe := ⟨_, rfl⟩
                      have HOE := Lib.hid hoe
                      have hle2 : decide (oe < 0) = decide ((y.seq : Int) ≤ (at_ : Int)) := by
                        rw [← hoe]
                        refine hle.trans ?_
                        congr 1
                        exact propext ⟨fun h => by omega, fun h => by omega⟩
                      clear hle hoe
                      have e1 : decide (1 ≤ y.kind) = true := by simp [hk1]
                      have e2 : decide (y.kind ≤ 2) = true := by simp [hk2]
                      go_wp2_with (first
                        | (go_at_call 10; refine (least_any _ y.key at_ HKS).mono ?_; rintro r w8 ⟨rfl, b8⟩; have B8 := Lib.hid ((BX.out.trans (b8.mono BX.out.size)).trans (((Below.refl _ w8).alloc (Nat.le_refl _) (.cells #[.string y.key, .int .u64 at_, .int .i64 255, .string ⟨#[]⟩] 30)).mono (BX.out.trans (b8.mono BX.out.size)).size)); have X8 := Lib.hid (old_alloc (keep_b X0.out b8) (.cells #[.string y.key, .int .u64 at_, .int .i64 255, .string ⟨#[]⟩] 30)); have Y8 := Lib.hid (e_box (W := w8) ⟨y.key, at_, 255, ⟨#[]⟩⟩ 30); obtain ⟨q0, q1, q2, q3⟩ := box4 X8.out; obtain ⟨u0, u1, u2, u3⟩ := box4 Y8.out; clear b8))
                      have X8d : Hid ((w8.alloc (.cells #[.string y.key, .int .u64 at_, .int .i64 255, .string ⟨#[]⟩] 30)).drew.heap[wz.heap.size]? = some (.cells #[.string y.key, .int .u64 y.seq, .int .i64 y.kind, .string y.val] 30 (0, 0))) := X8.out
                      have Y8d : Hid ((w8.alloc (.cells #[.string y.key, .int .u64 at_, .int .i64 255, .string ⟨#[]⟩] 30)).drew.heap[w8.heap.size]? = some (.cells #[.string y.key, .int .u64 at_, .int .i64 255, .string ⟨#[]⟩] 30 (0, 0))) := Y8.out
                      have B8d := Lib.hid (B8.out.trans ((below_drew (w8.alloc (.cells #[.string y.key, .int .u64 at_, .int .i64 255, .string ⟨#[]⟩] 30))).mono B8.out.size))
                      go_region_held3 (fun wx => wx.cell? ⟨wz.heap.size, 0, none⟩ = some (.string y.key) ∧ wx.cell? ⟨wz.heap.size, 1, none⟩ = some (.int .u64 y.seq) ∧ wx.cell? ⟨wz.heap.size, 2, none⟩ = some (.int .i64 y.kind) ∧ wx.cell? ⟨wz.heap.size, 3, none⟩ = some (.string y.val) ∧ wx.cell? ⟨w8.heap.size, 0, none⟩ = some (.string y.key) ∧ wx.cell? ⟨w8.heap.size, 1, none⟩ = some (.int .u64 at_) ∧ wx.cell? ⟨w8.heap.size, 2, none⟩ = some (.int .i64 255) ∧ wx.cell? ⟨w8.heap.size, 3, none⟩ = some (.string ⟨#[]⟩))
                        (first | exact s8b (z := ⟨y.key, at_, 255, ⟨#[]⟩⟩) X8d.out Y8d.out | exact s8b (z := ⟨y.key, at_, 255, ⟨#[]⟩⟩) X9.out Y9.out)
                        (first
                          | (go_at_call 11; refine (compare_any ⟨y.key, at_, 255, ⟨#[]⟩⟩ y _).mono ?_; rw [HOE.out]; rintro r w9 ⟨rfl, b9⟩; have B9 := Lib.hid (B8d.out.trans (b9.mono B8d.out.size)); have X9 := Lib.hid (keep_b X8d.out b9); have Y9 := Lib.hid (keep_b Y8d.out b9); clear b9))
                      go_wp2
                      go_roundw
                      case rel => exact ⟨j3 + 1, by omega, by go_num, B9.out⟩
                      case measure => simp [intOf]; omega
                    · have e1 : decide (1 ≤ y.kind) = true := by simp [hk1]
                      have e2 : decide (y.kind ≤ 2) = false := by simp; omega
                      go_wp2_with (first
                        | (go_at_call 10; refine (least_any _ y.key at_ HKS).mono ?_; rintro r w8 ⟨rfl, b8⟩; have B8 := Lib.hid ((BX.out.trans (b8.mono BX.out.size)).trans (((Below.refl _ w8).alloc (Nat.le_refl _) (.cells #[.string y.key, .int .u64 at_, .int .i64 255, .string ⟨#[]⟩] 30)).mono (BX.out.trans (b8.mono BX.out.size)).size)); have X8 := Lib.hid (old_alloc (keep_b X0.out b8) (.cells #[.string y.key, .int .u64 at_, .int .i64 255, .string ⟨#[]⟩] 30)); have Y8 := Lib.hid (e_box (W := w8) ⟨y.key, at_, 255, ⟨#[]⟩⟩ 30); obtain ⟨q0, q1, q2, q3⟩ := box4 X8.out; obtain ⟨u0, u1, u2, u3⟩ := box4 Y8.out; clear b8))
                      have X8d : Hid ((w8.alloc (.cells #[.string y.key, .int .u64 at_, .int .i64 255, .string ⟨#[]⟩] 30)).drew.heap[wz.heap.size]? = some (.cells #[.string y.key, .int .u64 y.seq, .int .i64 y.kind, .string y.val] 30 (0, 0))) := X8.out
                      have Y8d : Hid ((w8.alloc (.cells #[.string y.key, .int .u64 at_, .int .i64 255, .string ⟨#[]⟩] 30)).drew.heap[w8.heap.size]? = some (.cells #[.string y.key, .int .u64 at_, .int .i64 255, .string ⟨#[]⟩] 30 (0, 0))) := Y8.out
                      have B8d := Lib.hid (B8.out.trans ((below_drew (w8.alloc (.cells #[.string y.key, .int .u64 at_, .int .i64 255, .string ⟨#[]⟩] 30))).mono B8.out.size))
                      refine wp_region_noPanic ?_
                      refine wp_region_held_drew (S := (fun wx => wx.cell? ⟨wz.heap.size, 0, none⟩ = some (.string y.key) ∧ wx.cell? ⟨wz.heap.size, 1, none⟩ = some (.int .u64 y.seq) ∧ wx.cell? ⟨wz.heap.size, 2, none⟩ = some (.int .i64 y.kind) ∧ wx.cell? ⟨wz.heap.size, 3, none⟩ = some (.string y.val) ∧ wx.cell? ⟨w8.heap.size, 0, none⟩ = some (.string y.key) ∧ wx.cell? ⟨w8.heap.size, 1, none⟩ = some (.int .u64 at_) ∧ wx.cell? ⟨w8.heap.size, 2, none⟩ = some (.int .i64 255) ∧ wx.cell? ⟨w8.heap.size, 3, none⟩ = some (.string ⟨#[]⟩))) (by kernel_rfl) (s8b (z := ⟨y.key, at_, 255, ⟨#[]⟩⟩) X8d.out Y8d.out) (fun HS => ?_)
                      refine wpAnyH_take (S := (fun wx => wx.cell? ⟨wz.heap.size, 0, none⟩ = some (.string y.key) ∧ wx.cell? ⟨wz.heap.size, 1, none⟩ = some (.int .u64 y.seq) ∧ wx.cell? ⟨wz.heap.size, 2, none⟩ = some (.int .i64 y.kind) ∧ wx.cell? ⟨wz.heap.size, 3, none⟩ = some (.string y.val) ∧ wx.cell? ⟨w8.heap.size, 0, none⟩ = some (.string y.key) ∧ wx.cell? ⟨w8.heap.size, 1, none⟩ = some (.int .u64 at_) ∧ wx.cell? ⟨w8.heap.size, 2, none⟩ = some (.int .i64 255) ∧ wx.cell? ⟨w8.heap.size, 3, none⟩ = some (.string ⟨#[]⟩))) (i := 0) (oi := { dst := some 112, op := Go.Op.fieldAddr 30 (Go.Operand.tmp 20) 2, type := 0, pos := "law.go:123", after := #[], guard := none }) (v := ?va0) rfl (by kernel_rfl) (by kernel_rfl) (by kernel_rfl) (fun _ _ _ h => h) (Or.inl ⟨by rfl, ?ya0⟩) HS ?ra0
                      case ya0 => (intro w hSw; obtain ⟨s0, s1, s2, s3, s4, s5, s6, s7⟩ := hSw; go_simp; first | done | with_reducible rfl | simp [e1] | simp [e1, e2] | skip)
                      try simp only [Act.put, List.setIfInBounds_toArray, List.set_cons_zero, List.set_cons_succ]
                      refine wpAnyH_take (S := (fun wx => wx.cell? ⟨wz.heap.size, 0, none⟩ = some (.string y.key) ∧ wx.cell? ⟨wz.heap.size, 1, none⟩ = some (.int .u64 y.seq) ∧ wx.cell? ⟨wz.heap.size, 2, none⟩ = some (.int .i64 y.kind) ∧ wx.cell? ⟨wz.heap.size, 3, none⟩ = some (.string y.val) ∧ wx.cell? ⟨w8.heap.size, 0, none⟩ = some (.string y.key) ∧ wx.cell? ⟨w8.heap.size, 1, none⟩ = some (.int .u64 at_) ∧ wx.cell? ⟨w8.heap.size, 2, none⟩ = some (.int .i64 255) ∧ wx.cell? ⟨w8.heap.size, 3, none⟩ = some (.string ⟨#[]⟩))) (i := 1) (oi := { dst := some 113, op := Go.Op.load 3 (Go.Operand.tmp 112), type := 3, pos := "law.go:123", after := #[{ on := 0, ground := Go.Ground.data }], guard := none }) (v := ?va1) rfl (by kernel_rfl) (by kernel_rfl) (by kernel_rfl) (fun _ _ _ h => h) (Or.inl ⟨by rfl, ?ya1⟩) HS ?ra1
                      case ya1 => (intro w hSw; obtain ⟨s0, s1, s2, s3, s4, s5, s6, s7⟩ := hSw; go_simp; first | done | with_reducible rfl | simp [e1] | simp [e1, e2] | skip)
                      try simp only [Act.put, List.setIfInBounds_toArray, List.set_cons_zero, List.set_cons_succ]
                      refine wpAnyH_take (S := (fun wx => wx.cell? ⟨wz.heap.size, 0, none⟩ = some (.string y.key) ∧ wx.cell? ⟨wz.heap.size, 1, none⟩ = some (.int .u64 y.seq) ∧ wx.cell? ⟨wz.heap.size, 2, none⟩ = some (.int .i64 y.kind) ∧ wx.cell? ⟨wz.heap.size, 3, none⟩ = some (.string y.val) ∧ wx.cell? ⟨w8.heap.size, 0, none⟩ = some (.string y.key) ∧ wx.cell? ⟨w8.heap.size, 1, none⟩ = some (.int .u64 at_) ∧ wx.cell? ⟨w8.heap.size, 2, none⟩ = some (.int .i64 255) ∧ wx.cell? ⟨w8.heap.size, 3, none⟩ = some (.string ⟨#[]⟩))) (i := 2) (oi := { dst := some 114, op := Go.Op.binOp Go.BinOp.geq 3 (Go.Operand.tmp 113) (Go.Operand.const (Go.Value.int Go.IntKind.i64 1)) 3, type := 4, pos := "law.go:123", after := #[{ on := 1, ground := Go.Ground.data }], guard := none }) (v := .bool true) rfl (by kernel_rfl) (by kernel_rfl) (by kernel_rfl) (fun _ _ _ h => h) (Or.inl ⟨by rfl, ?ya2⟩) HS ?ra2
                      case ya2 => (intro w hSw; obtain ⟨s0, s1, s2, s3, s4, s5, s6, s7⟩ := hSw; go_simp; first | done | with_reducible rfl | simp [e1] | simp [e1, e2] | skip)
                      try simp only [Act.put, List.setIfInBounds_toArray, List.set_cons_zero, List.set_cons_succ]
                      refine wpAnyH_take (S := (fun wx => wx.cell? ⟨wz.heap.size, 0, none⟩ = some (.string y.key) ∧ wx.cell? ⟨wz.heap.size, 1, none⟩ = some (.int .u64 y.seq) ∧ wx.cell? ⟨wz.heap.size, 2, none⟩ = some (.int .i64 y.kind) ∧ wx.cell? ⟨wz.heap.size, 3, none⟩ = some (.string y.val) ∧ wx.cell? ⟨w8.heap.size, 0, none⟩ = some (.string y.key) ∧ wx.cell? ⟨w8.heap.size, 1, none⟩ = some (.int .u64 at_) ∧ wx.cell? ⟨w8.heap.size, 2, none⟩ = some (.int .i64 255) ∧ wx.cell? ⟨w8.heap.size, 3, none⟩ = some (.string ⟨#[]⟩))) (i := 3) (oi := { dst := some 115, op := Go.Op.move (Go.Operand.tmp 114), type := 4, pos := "law.go:123", after := #[{ on := 2, ground := Go.Ground.data }], guard := none }) (v := .bool true) rfl (by kernel_rfl) (by kernel_rfl) (by kernel_rfl) (fun _ _ _ h => h) (Or.inl ⟨by rfl, ?ya3⟩) HS ?ra3
                      case ya3 => (intro w hSw; obtain ⟨s0, s1, s2, s3, s4, s5, s6, s7⟩ := hSw; go_simp; first | done | with_reducible rfl | simp [e1] | simp [e1, e2] | skip)
                      try simp only [Act.put, List.setIfInBounds_toArray, List.set_cons_zero, List.set_cons_succ]
                      refine wpAnyH_take (S := (fun wx => wx.cell? ⟨wz.heap.size, 0, none⟩ = some (.string y.key) ∧ wx.cell? ⟨wz.heap.size, 1, none⟩ = some (.int .u64 y.seq) ∧ wx.cell? ⟨wz.heap.size, 2, none⟩ = some (.int .i64 y.kind) ∧ wx.cell? ⟨wz.heap.size, 3, none⟩ = some (.string y.val) ∧ wx.cell? ⟨w8.heap.size, 0, none⟩ = some (.string y.key) ∧ wx.cell? ⟨w8.heap.size, 1, none⟩ = some (.int .u64 at_) ∧ wx.cell? ⟨w8.heap.size, 2, none⟩ = some (.int .i64 255) ∧ wx.cell? ⟨w8.heap.size, 3, none⟩ = some (.string ⟨#[]⟩))) (i := 4) (oi := { dst := some 116, op := Go.Op.fieldAddr 30 (Go.Operand.tmp 20) 2, type := 0, pos := "law.go:123", after := #[{ on := 3, ground := Go.Ground.guard }], guard := some (3, true) }) (v := ?va4) rfl (by kernel_rfl) (by kernel_rfl) (by kernel_rfl) (fun _ _ _ h => h) (Or.inl ⟨by rfl, ?ya4⟩) HS ?ra4
                      case ya4 => (intro w hSw; obtain ⟨s0, s1, s2, s3, s4, s5, s6, s7⟩ := hSw; go_simp; first | done | with_reducible rfl | simp [e1] | simp [e1, e2] | skip)
                      try simp only [Act.put, List.setIfInBounds_toArray, List.set_cons_zero, List.set_cons_succ]
                      refine wpAnyH_take (S := (fun wx => wx.cell? ⟨wz.heap.size, 0, none⟩ = some (.string y.key) ∧ wx.cell? ⟨wz.heap.size, 1, none⟩ = some (.int .u64 y.seq) ∧ wx.cell? ⟨wz.heap.size, 2, none⟩ = some (.int .i64 y.kind) ∧ wx.cell? ⟨wz.heap.size, 3, none⟩ = some (.string y.val) ∧ wx.cell? ⟨w8.heap.size, 0, none⟩ = some (.string y.key) ∧ wx.cell? ⟨w8.heap.size, 1, none⟩ = some (.int .u64 at_) ∧ wx.cell? ⟨w8.heap.size, 2, none⟩ = some (.int .i64 255) ∧ wx.cell? ⟨w8.heap.size, 3, none⟩ = some (.string ⟨#[]⟩))) (i := 5) (oi := { dst := some 117, op := Go.Op.load 3 (Go.Operand.tmp 116), type := 3, pos := "law.go:123", after := #[{ on := 4, ground := Go.Ground.data }, { on := 3, ground := Go.Ground.guard }], guard := some (3, true) }) (v := ?va5) rfl (by kernel_rfl) (by kernel_rfl) (by kernel_rfl) (fun _ _ _ h => h) (Or.inl ⟨by rfl, ?ya5⟩) HS ?ra5
                      case ya5 => (intro w hSw; obtain ⟨s0, s1, s2, s3, s4, s5, s6, s7⟩ := hSw; go_simp; first | done | with_reducible rfl | simp [e1] | simp [e1, e2] | skip)
                      try simp only [Act.put, List.setIfInBounds_toArray, List.set_cons_zero, List.set_cons_succ]
                      refine wpAnyH_take (S := (fun wx => wx.cell? ⟨wz.heap.size, 0, none⟩ = some (.string y.key) ∧ wx.cell? ⟨wz.heap.size, 1, none⟩ = some (.int .u64 y.seq) ∧ wx.cell? ⟨wz.heap.size, 2, none⟩ = some (.int .i64 y.kind) ∧ wx.cell? ⟨wz.heap.size, 3, none⟩ = some (.string y.val) ∧ wx.cell? ⟨w8.heap.size, 0, none⟩ = some (.string y.key) ∧ wx.cell? ⟨w8.heap.size, 1, none⟩ = some (.int .u64 at_) ∧ wx.cell? ⟨w8.heap.size, 2, none⟩ = some (.int .i64 255) ∧ wx.cell? ⟨w8.heap.size, 3, none⟩ = some (.string ⟨#[]⟩))) (i := 6) (oi := { dst := some 118, op := Go.Op.binOp Go.BinOp.leq 3 (Go.Operand.tmp 117) (Go.Operand.const (Go.Value.int Go.IntKind.i64 2)) 3, type := 4, pos := "law.go:123", after := #[{ on := 5, ground := Go.Ground.data }, { on := 3, ground := Go.Ground.guard }], guard := some (3, true) }) (v := .bool false) rfl (by kernel_rfl) (by kernel_rfl) (by kernel_rfl) (fun _ _ _ h => h) (Or.inl ⟨by rfl, ?ya6⟩) HS ?ra6
                      case ya6 => (intro w hSw; obtain ⟨s0, s1, s2, s3, s4, s5, s6, s7⟩ := hSw; go_simp; first | done | with_reducible rfl | simp [e1] | simp [e1, e2] | skip)
                      try simp only [Act.put, List.setIfInBounds_toArray, List.set_cons_zero, List.set_cons_succ]
                      refine wpAnyH_take (S := (fun wx => wx.cell? ⟨wz.heap.size, 0, none⟩ = some (.string y.key) ∧ wx.cell? ⟨wz.heap.size, 1, none⟩ = some (.int .u64 y.seq) ∧ wx.cell? ⟨wz.heap.size, 2, none⟩ = some (.int .i64 y.kind) ∧ wx.cell? ⟨wz.heap.size, 3, none⟩ = some (.string y.val) ∧ wx.cell? ⟨w8.heap.size, 0, none⟩ = some (.string y.key) ∧ wx.cell? ⟨w8.heap.size, 1, none⟩ = some (.int .u64 at_) ∧ wx.cell? ⟨w8.heap.size, 2, none⟩ = some (.int .i64 255) ∧ wx.cell? ⟨w8.heap.size, 3, none⟩ = some (.string ⟨#[]⟩))) (i := 7) (oi := { dst := some 119, op := Go.Op.pick (Go.Operand.tmp 115) (Go.Operand.tmp 118) (Go.Operand.const (Go.Value.bool false)), type := 4, pos := "law.go:123", after := #[{ on := 3, ground := Go.Ground.data }, { on := 6, ground := Go.Ground.data }], guard := none }) (v := .bool false) rfl (by kernel_rfl) (by kernel_rfl) (by kernel_rfl) (fun _ _ _ h => h) (Or.inl ⟨by rfl, ?ya7⟩) HS ?ra7
                      case ya7 => (intro w hSw; obtain ⟨s0, s1, s2, s3, s4, s5, s6, s7⟩ := hSw; go_simp; first | done | with_reducible rfl | simp [e1] | simp [e1, e2] | skip)
                      try simp only [Act.put, List.setIfInBounds_toArray, List.set_cons_zero, List.set_cons_succ]
                      refine wpAnyH_take (S := (fun wx => wx.cell? ⟨wz.heap.size, 0, none⟩ = some (.string y.key) ∧ wx.cell? ⟨wz.heap.size, 1, none⟩ = some (.int .u64 y.seq) ∧ wx.cell? ⟨wz.heap.size, 2, none⟩ = some (.int .i64 y.kind) ∧ wx.cell? ⟨wz.heap.size, 3, none⟩ = some (.string y.val) ∧ wx.cell? ⟨w8.heap.size, 0, none⟩ = some (.string y.key) ∧ wx.cell? ⟨w8.heap.size, 1, none⟩ = some (.int .u64 at_) ∧ wx.cell? ⟨w8.heap.size, 2, none⟩ = some (.int .i64 255) ∧ wx.cell? ⟨w8.heap.size, 3, none⟩ = some (.string ⟨#[]⟩))) (i := 8) (oi := { dst := some 120, op := Go.Op.move (Go.Operand.tmp 119), type := 4, pos := "law.go:123", after := #[{ on := 7, ground := Go.Ground.data }, { on := 3, ground := Go.Ground.chain }], guard := none }) (v := .bool false) rfl (by kernel_rfl) (by kernel_rfl) (by kernel_rfl) (fun _ _ _ h => h) (Or.inl ⟨by rfl, ?ya8⟩) HS ?ra8
                      case ya8 => (intro w hSw; obtain ⟨s0, s1, s2, s3, s4, s5, s6, s7⟩ := hSw; go_simp; first | done | with_reducible rfl | simp [e1] | simp [e1, e2] | skip)
                      try simp only [Act.put, List.setIfInBounds_toArray, List.set_cons_zero, List.set_cons_succ]
                      refine wpAnyH_take (S := (fun wx => wx.cell? ⟨wz.heap.size, 0, none⟩ = some (.string y.key) ∧ wx.cell? ⟨wz.heap.size, 1, none⟩ = some (.int .u64 y.seq) ∧ wx.cell? ⟨wz.heap.size, 2, none⟩ = some (.int .i64 y.kind) ∧ wx.cell? ⟨wz.heap.size, 3, none⟩ = some (.string y.val) ∧ wx.cell? ⟨w8.heap.size, 0, none⟩ = some (.string y.key) ∧ wx.cell? ⟨w8.heap.size, 1, none⟩ = some (.int .u64 at_) ∧ wx.cell? ⟨w8.heap.size, 2, none⟩ = some (.int .i64 255) ∧ wx.cell? ⟨w8.heap.size, 3, none⟩ = some (.string ⟨#[]⟩))) (i := 9) (oi := { dst := some 121, op := Go.Op.load 30 (Go.Operand.tmp 21), type := 30, pos := "law.go:123", after := #[{ on := 8, ground := Go.Ground.guard }], guard := some (8, true) }) (v := undef) rfl (by kernel_rfl) (by kernel_rfl) (by kernel_rfl) (fun _ _ _ h => h) (Or.inr ⟨by rfl, rfl⟩) HS ?ra9
                      try simp only [Act.put, List.setIfInBounds_toArray, List.set_cons_zero, List.set_cons_succ]
                      refine wpAnyH_take (S := (fun wx => wx.cell? ⟨wz.heap.size, 0, none⟩ = some (.string y.key) ∧ wx.cell? ⟨wz.heap.size, 1, none⟩ = some (.int .u64 y.seq) ∧ wx.cell? ⟨wz.heap.size, 2, none⟩ = some (.int .i64 y.kind) ∧ wx.cell? ⟨wz.heap.size, 3, none⟩ = some (.string y.val) ∧ wx.cell? ⟨w8.heap.size, 0, none⟩ = some (.string y.key) ∧ wx.cell? ⟨w8.heap.size, 1, none⟩ = some (.int .u64 at_) ∧ wx.cell? ⟨w8.heap.size, 2, none⟩ = some (.int .i64 255) ∧ wx.cell? ⟨w8.heap.size, 3, none⟩ = some (.string ⟨#[]⟩))) (i := 10) (oi := { dst := some 122, op := Go.Op.load 30 (Go.Operand.tmp 20), type := 30, pos := "law.go:123", after := #[{ on := 8, ground := Go.Ground.guard }], guard := some (8, true) }) (v := undef) rfl (by kernel_rfl) (by kernel_rfl) (by kernel_rfl) (fun _ _ _ h => h) (Or.inr ⟨by rfl, rfl⟩) HS ?ra10
                      try simp only [Act.put, List.setIfInBounds_toArray, List.set_cons_zero, List.set_cons_succ]
                      refine wpAnyH_take (S := (fun wx => wx.cell? ⟨wz.heap.size, 0, none⟩ = some (.string y.key) ∧ wx.cell? ⟨wz.heap.size, 1, none⟩ = some (.int .u64 y.seq) ∧ wx.cell? ⟨wz.heap.size, 2, none⟩ = some (.int .i64 y.kind) ∧ wx.cell? ⟨wz.heap.size, 3, none⟩ = some (.string y.val) ∧ wx.cell? ⟨w8.heap.size, 0, none⟩ = some (.string y.key) ∧ wx.cell? ⟨w8.heap.size, 1, none⟩ = some (.int .u64 at_) ∧ wx.cell? ⟨w8.heap.size, 2, none⟩ = some (.int .i64 255) ∧ wx.cell? ⟨w8.heap.size, 3, none⟩ = some (.string ⟨#[]⟩))) (i := 11) (oi := { dst := some 123, op := Go.Op.call { callee := Go.Callee.value (Go.Operand.func 11), args := #[Go.Operand.tmp 121, Go.Operand.tmp 122], argTypes := #[30, 30] }, type := 3, pos := "law.go:123", after := #[{ on := 9, ground := Go.Ground.data }, { on := 10, ground := Go.Ground.data }, { on := 8, ground := Go.Ground.chain }, { on := 8, ground := Go.Ground.guard }], guard := some (8, true) }) (v := undef) rfl (by kernel_rfl) (by kernel_rfl) (by kernel_rfl) (fun _ _ _ h => h) (Or.inr ⟨by rfl, rfl⟩) HS ?ra11
                      try simp only [Act.put, List.setIfInBounds_toArray, List.set_cons_zero, List.set_cons_succ]
                      refine wpAnyH_take (S := (fun wx => wx.cell? ⟨wz.heap.size, 0, none⟩ = some (.string y.key) ∧ wx.cell? ⟨wz.heap.size, 1, none⟩ = some (.int .u64 y.seq) ∧ wx.cell? ⟨wz.heap.size, 2, none⟩ = some (.int .i64 y.kind) ∧ wx.cell? ⟨wz.heap.size, 3, none⟩ = some (.string y.val) ∧ wx.cell? ⟨w8.heap.size, 0, none⟩ = some (.string y.key) ∧ wx.cell? ⟨w8.heap.size, 1, none⟩ = some (.int .u64 at_) ∧ wx.cell? ⟨w8.heap.size, 2, none⟩ = some (.int .i64 255) ∧ wx.cell? ⟨w8.heap.size, 3, none⟩ = some (.string ⟨#[]⟩))) (i := 12) (oi := { dst := some 124, op := Go.Op.binOp Go.BinOp.lss 3 (Go.Operand.tmp 123) (Go.Operand.const (Go.Value.int Go.IntKind.i64 0)) 3, type := 4, pos := "law.go:123", after := #[{ on := 11, ground := Go.Ground.data }, { on := 8, ground := Go.Ground.guard }], guard := some (8, true) }) (v := undef) rfl (by kernel_rfl) (by kernel_rfl) (by kernel_rfl) (fun _ _ _ h => h) (Or.inr ⟨by rfl, rfl⟩) HS ?ra12
                      try simp only [Act.put, List.setIfInBounds_toArray, List.set_cons_zero, List.set_cons_succ]
                      refine wpAnyH_take (S := (fun wx => wx.cell? ⟨wz.heap.size, 0, none⟩ = some (.string y.key) ∧ wx.cell? ⟨wz.heap.size, 1, none⟩ = some (.int .u64 y.seq) ∧ wx.cell? ⟨wz.heap.size, 2, none⟩ = some (.int .i64 y.kind) ∧ wx.cell? ⟨wz.heap.size, 3, none⟩ = some (.string y.val) ∧ wx.cell? ⟨w8.heap.size, 0, none⟩ = some (.string y.key) ∧ wx.cell? ⟨w8.heap.size, 1, none⟩ = some (.int .u64 at_) ∧ wx.cell? ⟨w8.heap.size, 2, none⟩ = some (.int .i64 255) ∧ wx.cell? ⟨w8.heap.size, 3, none⟩ = some (.string ⟨#[]⟩))) (i := 13) (oi := { dst := some 125, op := Go.Op.fieldAddr 30 (Go.Operand.tmp 20) 1, type := 0, pos := "law.go:123", after := #[{ on := 8, ground := Go.Ground.guard }], guard := some (8, true) }) (v := undef) rfl (by kernel_rfl) (by kernel_rfl) (by kernel_rfl) (fun _ _ _ h => h) (Or.inr ⟨by rfl, rfl⟩) HS ?ra13
                      try simp only [Act.put, List.setIfInBounds_toArray, List.set_cons_zero, List.set_cons_succ]
                      refine wpAnyH_take (S := (fun wx => wx.cell? ⟨wz.heap.size, 0, none⟩ = some (.string y.key) ∧ wx.cell? ⟨wz.heap.size, 1, none⟩ = some (.int .u64 y.seq) ∧ wx.cell? ⟨wz.heap.size, 2, none⟩ = some (.int .i64 y.kind) ∧ wx.cell? ⟨wz.heap.size, 3, none⟩ = some (.string y.val) ∧ wx.cell? ⟨w8.heap.size, 0, none⟩ = some (.string y.key) ∧ wx.cell? ⟨w8.heap.size, 1, none⟩ = some (.int .u64 at_) ∧ wx.cell? ⟨w8.heap.size, 2, none⟩ = some (.int .i64 255) ∧ wx.cell? ⟨w8.heap.size, 3, none⟩ = some (.string ⟨#[]⟩))) (i := 14) (oi := { dst := some 126, op := Go.Op.load 23 (Go.Operand.tmp 125), type := 23, pos := "law.go:123", after := #[{ on := 13, ground := Go.Ground.data }, { on := 8, ground := Go.Ground.guard }], guard := some (8, true) }) (v := undef) rfl (by kernel_rfl) (by kernel_rfl) (by kernel_rfl) (fun _ _ _ h => h) (Or.inr ⟨by rfl, rfl⟩) HS ?ra14
                      try simp only [Act.put, List.setIfInBounds_toArray, List.set_cons_zero, List.set_cons_succ]
                      refine wpAnyH_take (S := (fun wx => wx.cell? ⟨wz.heap.size, 0, none⟩ = some (.string y.key) ∧ wx.cell? ⟨wz.heap.size, 1, none⟩ = some (.int .u64 y.seq) ∧ wx.cell? ⟨wz.heap.size, 2, none⟩ = some (.int .i64 y.kind) ∧ wx.cell? ⟨wz.heap.size, 3, none⟩ = some (.string y.val) ∧ wx.cell? ⟨w8.heap.size, 0, none⟩ = some (.string y.key) ∧ wx.cell? ⟨w8.heap.size, 1, none⟩ = some (.int .u64 at_) ∧ wx.cell? ⟨w8.heap.size, 2, none⟩ = some (.int .i64 255) ∧ wx.cell? ⟨w8.heap.size, 3, none⟩ = some (.string ⟨#[]⟩))) (i := 15) (oi := { dst := some 127, op := Go.Op.move (Go.Operand.tmp 2), type := 23, pos := "law.go:123", after := #[{ on := 8, ground := Go.Ground.guard }], guard := some (8, true) }) (v := undef) rfl (by kernel_rfl) (by kernel_rfl) (by kernel_rfl) (fun _ _ _ h => h) (Or.inr ⟨by rfl, rfl⟩) HS ?ra15
                      try simp only [Act.put, List.setIfInBounds_toArray, List.set_cons_zero, List.set_cons_succ]
                      refine wpAnyH_take (S := (fun wx => wx.cell? ⟨wz.heap.size, 0, none⟩ = some (.string y.key) ∧ wx.cell? ⟨wz.heap.size, 1, none⟩ = some (.int .u64 y.seq) ∧ wx.cell? ⟨wz.heap.size, 2, none⟩ = some (.int .i64 y.kind) ∧ wx.cell? ⟨wz.heap.size, 3, none⟩ = some (.string y.val) ∧ wx.cell? ⟨w8.heap.size, 0, none⟩ = some (.string y.key) ∧ wx.cell? ⟨w8.heap.size, 1, none⟩ = some (.int .u64 at_) ∧ wx.cell? ⟨w8.heap.size, 2, none⟩ = some (.int .i64 255) ∧ wx.cell? ⟨w8.heap.size, 3, none⟩ = some (.string ⟨#[]⟩))) (i := 16) (oi := { dst := some 128, op := Go.Op.binOp Go.BinOp.leq 23 (Go.Operand.tmp 126) (Go.Operand.tmp 127) 23, type := 4, pos := "law.go:123", after := #[{ on := 14, ground := Go.Ground.data }, { on := 15, ground := Go.Ground.data }, { on := 8, ground := Go.Ground.guard }], guard := some (8, true) }) (v := undef) rfl (by kernel_rfl) (by kernel_rfl) (by kernel_rfl) (fun _ _ _ h => h) (Or.inr ⟨by rfl, rfl⟩) HS ?ra16
                      try simp only [Act.put, List.setIfInBounds_toArray, List.set_cons_zero, List.set_cons_succ]
                      refine wpAnyH_take (S := (fun wx => wx.cell? ⟨wz.heap.size, 0, none⟩ = some (.string y.key) ∧ wx.cell? ⟨wz.heap.size, 1, none⟩ = some (.int .u64 y.seq) ∧ wx.cell? ⟨wz.heap.size, 2, none⟩ = some (.int .i64 y.kind) ∧ wx.cell? ⟨wz.heap.size, 3, none⟩ = some (.string y.val) ∧ wx.cell? ⟨w8.heap.size, 0, none⟩ = some (.string y.key) ∧ wx.cell? ⟨w8.heap.size, 1, none⟩ = some (.int .u64 at_) ∧ wx.cell? ⟨w8.heap.size, 2, none⟩ = some (.int .i64 255) ∧ wx.cell? ⟨w8.heap.size, 3, none⟩ = some (.string ⟨#[]⟩))) (i := 17) (oi := { dst := some 129, op := Go.Op.binOp Go.BinOp.neq 4 (Go.Operand.tmp 124) (Go.Operand.tmp 128) 4, type := 4, pos := "law.go:123", after := #[{ on := 12, ground := Go.Ground.data }, { on := 16, ground := Go.Ground.data }, { on := 8, ground := Go.Ground.guard }], guard := some (8, true) }) (v := undef) rfl (by kernel_rfl) (by kernel_rfl) (by kernel_rfl) (fun _ _ _ h => h) (Or.inr ⟨by rfl, rfl⟩) HS ?ra17
                      try simp only [Act.put, List.setIfInBounds_toArray, List.set_cons_zero, List.set_cons_succ]
                      refine wpAnyH_take (S := (fun wx => wx.cell? ⟨wz.heap.size, 0, none⟩ = some (.string y.key) ∧ wx.cell? ⟨wz.heap.size, 1, none⟩ = some (.int .u64 y.seq) ∧ wx.cell? ⟨wz.heap.size, 2, none⟩ = some (.int .i64 y.kind) ∧ wx.cell? ⟨wz.heap.size, 3, none⟩ = some (.string y.val) ∧ wx.cell? ⟨w8.heap.size, 0, none⟩ = some (.string y.key) ∧ wx.cell? ⟨w8.heap.size, 1, none⟩ = some (.int .u64 at_) ∧ wx.cell? ⟨w8.heap.size, 2, none⟩ = some (.int .i64 255) ∧ wx.cell? ⟨w8.heap.size, 3, none⟩ = some (.string ⟨#[]⟩))) (i := 18) (oi := { dst := some 130, op := Go.Op.pick (Go.Operand.tmp 120) (Go.Operand.tmp 129) (Go.Operand.const (Go.Value.bool false)), type := 4, pos := "law.go:123", after := #[{ on := 8, ground := Go.Ground.data }, { on := 17, ground := Go.Ground.data }], guard := none }) (v := .bool false) rfl (by kernel_rfl) (by kernel_rfl) (by kernel_rfl) (fun _ _ _ h => h) (Or.inl ⟨by rfl, ?ya18⟩) HS ?ra18
                      case ya18 => (intro w hSw; obtain ⟨s0, s1, s2, s3, s4, s5, s6, s7⟩ := hSw; go_simp; first | done | with_reducible rfl | simp [e1] | simp [e1, e2] | skip)
                      try simp only [Act.put, List.setIfInBounds_toArray, List.set_cons_zero, List.set_cons_succ]
                      refine wpAnyH_done (by kernel_rfl) ?_ _
                      refine NoPanic.normal ?_
                      go_wp2
                      go_roundw
                      case rel => exact ⟨j3 + 1, by omega, by go_num, B8d.out⟩
                      case measure => simp [intOf]; omega
                  · have e1 : decide (1 ≤ y.kind) = false := by simp; omega
                    go_wp2_with (first
                      | (go_at_call 10; refine (least_any _ y.key at_ HKS).mono ?_; rintro r w8 ⟨rfl, b8⟩; have B8 := Lib.hid ((BX.out.trans (b8.mono BX.out.size)).trans (((Below.refl _ w8).alloc (Nat.le_refl _) (.cells #[.string y.key, .int .u64 at_, .int .i64 255, .string ⟨#[]⟩] 30)).mono (BX.out.trans (b8.mono BX.out.size)).size)); have X8 := Lib.hid (old_alloc (keep_b X0.out b8) (.cells #[.string y.key, .int .u64 at_, .int .i64 255, .string ⟨#[]⟩] 30)); have Y8 := Lib.hid (e_box (W := w8) ⟨y.key, at_, 255, ⟨#[]⟩⟩ 30); obtain ⟨q0, q1, q2, q3⟩ := box4 X8.out; obtain ⟨u0, u1, u2, u3⟩ := box4 Y8.out; clear b8))
                    have X8d : Hid ((w8.alloc (.cells #[.string y.key, .int .u64 at_, .int .i64 255, .string ⟨#[]⟩] 30)).drew.heap[wz.heap.size]? = some (.cells #[.string y.key, .int .u64 y.seq, .int .i64 y.kind, .string y.val] 30 (0, 0))) := X8.out
                    have Y8d : Hid ((w8.alloc (.cells #[.string y.key, .int .u64 at_, .int .i64 255, .string ⟨#[]⟩] 30)).drew.heap[w8.heap.size]? = some (.cells #[.string y.key, .int .u64 at_, .int .i64 255, .string ⟨#[]⟩] 30 (0, 0))) := Y8.out
                    have B8d := Lib.hid (B8.out.trans ((below_drew (w8.alloc (.cells #[.string y.key, .int .u64 at_, .int .i64 255, .string ⟨#[]⟩] 30))).mono B8.out.size))
                    refine wp_region_noPanic ?_
                    refine wp_region_held_drew (S := (fun wx => wx.cell? ⟨wz.heap.size, 0, none⟩ = some (.string y.key) ∧ wx.cell? ⟨wz.heap.size, 1, none⟩ = some (.int .u64 y.seq) ∧ wx.cell? ⟨wz.heap.size, 2, none⟩ = some (.int .i64 y.kind) ∧ wx.cell? ⟨wz.heap.size, 3, none⟩ = some (.string y.val) ∧ wx.cell? ⟨w8.heap.size, 0, none⟩ = some (.string y.key) ∧ wx.cell? ⟨w8.heap.size, 1, none⟩ = some (.int .u64 at_) ∧ wx.cell? ⟨w8.heap.size, 2, none⟩ = some (.int .i64 255) ∧ wx.cell? ⟨w8.heap.size, 3, none⟩ = some (.string ⟨#[]⟩))) (by kernel_rfl) (s8b (z := ⟨y.key, at_, 255, ⟨#[]⟩⟩) X8d.out Y8d.out) (fun HS => ?_)
                    refine wpAnyH_take (S := (fun wx => wx.cell? ⟨wz.heap.size, 0, none⟩ = some (.string y.key) ∧ wx.cell? ⟨wz.heap.size, 1, none⟩ = some (.int .u64 y.seq) ∧ wx.cell? ⟨wz.heap.size, 2, none⟩ = some (.int .i64 y.kind) ∧ wx.cell? ⟨wz.heap.size, 3, none⟩ = some (.string y.val) ∧ wx.cell? ⟨w8.heap.size, 0, none⟩ = some (.string y.key) ∧ wx.cell? ⟨w8.heap.size, 1, none⟩ = some (.int .u64 at_) ∧ wx.cell? ⟨w8.heap.size, 2, none⟩ = some (.int .i64 255) ∧ wx.cell? ⟨w8.heap.size, 3, none⟩ = some (.string ⟨#[]⟩))) (i := 0) (oi := { dst := some 112, op := Go.Op.fieldAddr 30 (Go.Operand.tmp 20) 2, type := 0, pos := "law.go:123", after := #[], guard := none }) (v := ?vb0) rfl (by kernel_rfl) (by kernel_rfl) (by kernel_rfl) (fun _ _ _ h => h) (Or.inl ⟨by rfl, ?yb0⟩) HS ?rb0
                    case yb0 => (intro w hSw; obtain ⟨s0, s1, s2, s3, s4, s5, s6, s7⟩ := hSw; go_simp; first | done | with_reducible rfl | simp [e1] | simp [e1, e2] | skip)
                    try simp only [Act.put, List.setIfInBounds_toArray, List.set_cons_zero, List.set_cons_succ]
                    refine wpAnyH_take (S := (fun wx => wx.cell? ⟨wz.heap.size, 0, none⟩ = some (.string y.key) ∧ wx.cell? ⟨wz.heap.size, 1, none⟩ = some (.int .u64 y.seq) ∧ wx.cell? ⟨wz.heap.size, 2, none⟩ = some (.int .i64 y.kind) ∧ wx.cell? ⟨wz.heap.size, 3, none⟩ = some (.string y.val) ∧ wx.cell? ⟨w8.heap.size, 0, none⟩ = some (.string y.key) ∧ wx.cell? ⟨w8.heap.size, 1, none⟩ = some (.int .u64 at_) ∧ wx.cell? ⟨w8.heap.size, 2, none⟩ = some (.int .i64 255) ∧ wx.cell? ⟨w8.heap.size, 3, none⟩ = some (.string ⟨#[]⟩))) (i := 1) (oi := { dst := some 113, op := Go.Op.load 3 (Go.Operand.tmp 112), type := 3, pos := "law.go:123", after := #[{ on := 0, ground := Go.Ground.data }], guard := none }) (v := ?vb1) rfl (by kernel_rfl) (by kernel_rfl) (by kernel_rfl) (fun _ _ _ h => h) (Or.inl ⟨by rfl, ?yb1⟩) HS ?rb1
                    case yb1 => (intro w hSw; obtain ⟨s0, s1, s2, s3, s4, s5, s6, s7⟩ := hSw; go_simp; first | done | with_reducible rfl | simp [e1] | simp [e1, e2] | skip)
                    try simp only [Act.put, List.setIfInBounds_toArray, List.set_cons_zero, List.set_cons_succ]
                    refine wpAnyH_take (S := (fun wx => wx.cell? ⟨wz.heap.size, 0, none⟩ = some (.string y.key) ∧ wx.cell? ⟨wz.heap.size, 1, none⟩ = some (.int .u64 y.seq) ∧ wx.cell? ⟨wz.heap.size, 2, none⟩ = some (.int .i64 y.kind) ∧ wx.cell? ⟨wz.heap.size, 3, none⟩ = some (.string y.val) ∧ wx.cell? ⟨w8.heap.size, 0, none⟩ = some (.string y.key) ∧ wx.cell? ⟨w8.heap.size, 1, none⟩ = some (.int .u64 at_) ∧ wx.cell? ⟨w8.heap.size, 2, none⟩ = some (.int .i64 255) ∧ wx.cell? ⟨w8.heap.size, 3, none⟩ = some (.string ⟨#[]⟩))) (i := 2) (oi := { dst := some 114, op := Go.Op.binOp Go.BinOp.geq 3 (Go.Operand.tmp 113) (Go.Operand.const (Go.Value.int Go.IntKind.i64 1)) 3, type := 4, pos := "law.go:123", after := #[{ on := 1, ground := Go.Ground.data }], guard := none }) (v := .bool false) rfl (by kernel_rfl) (by kernel_rfl) (by kernel_rfl) (fun _ _ _ h => h) (Or.inl ⟨by rfl, ?yb2⟩) HS ?rb2
                    case yb2 => (intro w hSw; obtain ⟨s0, s1, s2, s3, s4, s5, s6, s7⟩ := hSw; go_simp; first | done | with_reducible rfl | simp [e1] | simp [e1, e2] | skip)
                    try simp only [Act.put, List.setIfInBounds_toArray, List.set_cons_zero, List.set_cons_succ]
                    refine wpAnyH_take (S := (fun wx => wx.cell? ⟨wz.heap.size, 0, none⟩ = some (.string y.key) ∧ wx.cell? ⟨wz.heap.size, 1, none⟩ = some (.int .u64 y.seq) ∧ wx.cell? ⟨wz.heap.size, 2, none⟩ = some (.int .i64 y.kind) ∧ wx.cell? ⟨wz.heap.size, 3, none⟩ = some (.string y.val) ∧ wx.cell? ⟨w8.heap.size, 0, none⟩ = some (.string y.key) ∧ wx.cell? ⟨w8.heap.size, 1, none⟩ = some (.int .u64 at_) ∧ wx.cell? ⟨w8.heap.size, 2, none⟩ = some (.int .i64 255) ∧ wx.cell? ⟨w8.heap.size, 3, none⟩ = some (.string ⟨#[]⟩))) (i := 3) (oi := { dst := some 115, op := Go.Op.move (Go.Operand.tmp 114), type := 4, pos := "law.go:123", after := #[{ on := 2, ground := Go.Ground.data }], guard := none }) (v := .bool false) rfl (by kernel_rfl) (by kernel_rfl) (by kernel_rfl) (fun _ _ _ h => h) (Or.inl ⟨by rfl, ?yb3⟩) HS ?rb3
                    case yb3 => (intro w hSw; obtain ⟨s0, s1, s2, s3, s4, s5, s6, s7⟩ := hSw; go_simp; first | done | with_reducible rfl | simp [e1] | simp [e1, e2] | skip)
                    try simp only [Act.put, List.setIfInBounds_toArray, List.set_cons_zero, List.set_cons_succ]
                    refine wpAnyH_take (S := (fun wx => wx.cell? ⟨wz.heap.size, 0, none⟩ = some (.string y.key) ∧ wx.cell? ⟨wz.heap.size, 1, none⟩ = some (.int .u64 y.seq) ∧ wx.cell? ⟨wz.heap.size, 2, none⟩ = some (.int .i64 y.kind) ∧ wx.cell? ⟨wz.heap.size, 3, none⟩ = some (.string y.val) ∧ wx.cell? ⟨w8.heap.size, 0, none⟩ = some (.string y.key) ∧ wx.cell? ⟨w8.heap.size, 1, none⟩ = some (.int .u64 at_) ∧ wx.cell? ⟨w8.heap.size, 2, none⟩ = some (.int .i64 255) ∧ wx.cell? ⟨w8.heap.size, 3, none⟩ = some (.string ⟨#[]⟩))) (i := 4) (oi := { dst := some 116, op := Go.Op.fieldAddr 30 (Go.Operand.tmp 20) 2, type := 0, pos := "law.go:123", after := #[{ on := 3, ground := Go.Ground.guard }], guard := some (3, true) }) (v := undef) rfl (by kernel_rfl) (by kernel_rfl) (by kernel_rfl) (fun _ _ _ h => h) (Or.inr ⟨by rfl, rfl⟩) HS ?rb4
                    try simp only [Act.put, List.setIfInBounds_toArray, List.set_cons_zero, List.set_cons_succ]
                    refine wpAnyH_take (S := (fun wx => wx.cell? ⟨wz.heap.size, 0, none⟩ = some (.string y.key) ∧ wx.cell? ⟨wz.heap.size, 1, none⟩ = some (.int .u64 y.seq) ∧ wx.cell? ⟨wz.heap.size, 2, none⟩ = some (.int .i64 y.kind) ∧ wx.cell? ⟨wz.heap.size, 3, none⟩ = some (.string y.val) ∧ wx.cell? ⟨w8.heap.size, 0, none⟩ = some (.string y.key) ∧ wx.cell? ⟨w8.heap.size, 1, none⟩ = some (.int .u64 at_) ∧ wx.cell? ⟨w8.heap.size, 2, none⟩ = some (.int .i64 255) ∧ wx.cell? ⟨w8.heap.size, 3, none⟩ = some (.string ⟨#[]⟩))) (i := 5) (oi := { dst := some 117, op := Go.Op.load 3 (Go.Operand.tmp 116), type := 3, pos := "law.go:123", after := #[{ on := 4, ground := Go.Ground.data }, { on := 3, ground := Go.Ground.guard }], guard := some (3, true) }) (v := undef) rfl (by kernel_rfl) (by kernel_rfl) (by kernel_rfl) (fun _ _ _ h => h) (Or.inr ⟨by rfl, rfl⟩) HS ?rb5
                    try simp only [Act.put, List.setIfInBounds_toArray, List.set_cons_zero, List.set_cons_succ]
                    refine wpAnyH_take (S := (fun wx => wx.cell? ⟨wz.heap.size, 0, none⟩ = some (.string y.key) ∧ wx.cell? ⟨wz.heap.size, 1, none⟩ = some (.int .u64 y.seq) ∧ wx.cell? ⟨wz.heap.size, 2, none⟩ = some (.int .i64 y.kind) ∧ wx.cell? ⟨wz.heap.size, 3, none⟩ = some (.string y.val) ∧ wx.cell? ⟨w8.heap.size, 0, none⟩ = some (.string y.key) ∧ wx.cell? ⟨w8.heap.size, 1, none⟩ = some (.int .u64 at_) ∧ wx.cell? ⟨w8.heap.size, 2, none⟩ = some (.int .i64 255) ∧ wx.cell? ⟨w8.heap.size, 3, none⟩ = some (.string ⟨#[]⟩))) (i := 6) (oi := { dst := some 118, op := Go.Op.binOp Go.BinOp.leq 3 (Go.Operand.tmp 117) (Go.Operand.const (Go.Value.int Go.IntKind.i64 2)) 3, type := 4, pos := "law.go:123", after := #[{ on := 5, ground := Go.Ground.data }, { on := 3, ground := Go.Ground.guard }], guard := some (3, true) }) (v := undef) rfl (by kernel_rfl) (by kernel_rfl) (by kernel_rfl) (fun _ _ _ h => h) (Or.inr ⟨by rfl, rfl⟩) HS ?rb6
                    try simp only [Act.put, List.setIfInBounds_toArray, List.set_cons_zero, List.set_cons_succ]
                    refine wpAnyH_take (S := (fun wx => wx.cell? ⟨wz.heap.size, 0, none⟩ = some (.string y.key) ∧ wx.cell? ⟨wz.heap.size, 1, none⟩ = some (.int .u64 y.seq) ∧ wx.cell? ⟨wz.heap.size, 2, none⟩ = some (.int .i64 y.kind) ∧ wx.cell? ⟨wz.heap.size, 3, none⟩ = some (.string y.val) ∧ wx.cell? ⟨w8.heap.size, 0, none⟩ = some (.string y.key) ∧ wx.cell? ⟨w8.heap.size, 1, none⟩ = some (.int .u64 at_) ∧ wx.cell? ⟨w8.heap.size, 2, none⟩ = some (.int .i64 255) ∧ wx.cell? ⟨w8.heap.size, 3, none⟩ = some (.string ⟨#[]⟩))) (i := 7) (oi := { dst := some 119, op := Go.Op.pick (Go.Operand.tmp 115) (Go.Operand.tmp 118) (Go.Operand.const (Go.Value.bool false)), type := 4, pos := "law.go:123", after := #[{ on := 3, ground := Go.Ground.data }, { on := 6, ground := Go.Ground.data }], guard := none }) (v := .bool false) rfl (by kernel_rfl) (by kernel_rfl) (by kernel_rfl) (fun _ _ _ h => h) (Or.inl ⟨by rfl, ?yb7⟩) HS ?rb7
                    case yb7 => (intro w hSw; obtain ⟨s0, s1, s2, s3, s4, s5, s6, s7⟩ := hSw; go_simp; first | done | with_reducible rfl | simp [e1] | simp [e1, e2] | skip)
                    try simp only [Act.put, List.setIfInBounds_toArray, List.set_cons_zero, List.set_cons_succ]
                    refine wpAnyH_take (S := (fun wx => wx.cell? ⟨wz.heap.size, 0, none⟩ = some (.string y.key) ∧ wx.cell? ⟨wz.heap.size, 1, none⟩ = some (.int .u64 y.seq) ∧ wx.cell? ⟨wz.heap.size, 2, none⟩ = some (.int .i64 y.kind) ∧ wx.cell? ⟨wz.heap.size, 3, none⟩ = some (.string y.val) ∧ wx.cell? ⟨w8.heap.size, 0, none⟩ = some (.string y.key) ∧ wx.cell? ⟨w8.heap.size, 1, none⟩ = some (.int .u64 at_) ∧ wx.cell? ⟨w8.heap.size, 2, none⟩ = some (.int .i64 255) ∧ wx.cell? ⟨w8.heap.size, 3, none⟩ = some (.string ⟨#[]⟩))) (i := 8) (oi := { dst := some 120, op := Go.Op.move (Go.Operand.tmp 119), type := 4, pos := "law.go:123", after := #[{ on := 7, ground := Go.Ground.data }, { on := 3, ground := Go.Ground.chain }], guard := none }) (v := .bool false) rfl (by kernel_rfl) (by kernel_rfl) (by kernel_rfl) (fun _ _ _ h => h) (Or.inl ⟨by rfl, ?yb8⟩) HS ?rb8
                    case yb8 => (intro w hSw; obtain ⟨s0, s1, s2, s3, s4, s5, s6, s7⟩ := hSw; go_simp; first | done | with_reducible rfl | simp [e1] | simp [e1, e2] | skip)
                    try simp only [Act.put, List.setIfInBounds_toArray, List.set_cons_zero, List.set_cons_succ]
                    refine wpAnyH_take (S := (fun wx => wx.cell? ⟨wz.heap.size, 0, none⟩ = some (.string y.key) ∧ wx.cell? ⟨wz.heap.size, 1, none⟩ = some (.int .u64 y.seq) ∧ wx.cell? ⟨wz.heap.size, 2, none⟩ = some (.int .i64 y.kind) ∧ wx.cell? ⟨wz.heap.size, 3, none⟩ = some (.string y.val) ∧ wx.cell? ⟨w8.heap.size, 0, none⟩ = some (.string y.key) ∧ wx.cell? ⟨w8.heap.size, 1, none⟩ = some (.int .u64 at_) ∧ wx.cell? ⟨w8.heap.size, 2, none⟩ = some (.int .i64 255) ∧ wx.cell? ⟨w8.heap.size, 3, none⟩ = some (.string ⟨#[]⟩))) (i := 9) (oi := { dst := some 121, op := Go.Op.load 30 (Go.Operand.tmp 21), type := 30, pos := "law.go:123", after := #[{ on := 8, ground := Go.Ground.guard }], guard := some (8, true) }) (v := undef) rfl (by kernel_rfl) (by kernel_rfl) (by kernel_rfl) (fun _ _ _ h => h) (Or.inr ⟨by rfl, rfl⟩) HS ?rb9
                    try simp only [Act.put, List.setIfInBounds_toArray, List.set_cons_zero, List.set_cons_succ]
                    refine wpAnyH_take (S := (fun wx => wx.cell? ⟨wz.heap.size, 0, none⟩ = some (.string y.key) ∧ wx.cell? ⟨wz.heap.size, 1, none⟩ = some (.int .u64 y.seq) ∧ wx.cell? ⟨wz.heap.size, 2, none⟩ = some (.int .i64 y.kind) ∧ wx.cell? ⟨wz.heap.size, 3, none⟩ = some (.string y.val) ∧ wx.cell? ⟨w8.heap.size, 0, none⟩ = some (.string y.key) ∧ wx.cell? ⟨w8.heap.size, 1, none⟩ = some (.int .u64 at_) ∧ wx.cell? ⟨w8.heap.size, 2, none⟩ = some (.int .i64 255) ∧ wx.cell? ⟨w8.heap.size, 3, none⟩ = some (.string ⟨#[]⟩))) (i := 10) (oi := { dst := some 122, op := Go.Op.load 30 (Go.Operand.tmp 20), type := 30, pos := "law.go:123", after := #[{ on := 8, ground := Go.Ground.guard }], guard := some (8, true) }) (v := undef) rfl (by kernel_rfl) (by kernel_rfl) (by kernel_rfl) (fun _ _ _ h => h) (Or.inr ⟨by rfl, rfl⟩) HS ?rb10
                    try simp only [Act.put, List.setIfInBounds_toArray, List.set_cons_zero, List.set_cons_succ]
                    refine wpAnyH_take (S := (fun wx => wx.cell? ⟨wz.heap.size, 0, none⟩ = some (.string y.key) ∧ wx.cell? ⟨wz.heap.size, 1, none⟩ = some (.int .u64 y.seq) ∧ wx.cell? ⟨wz.heap.size, 2, none⟩ = some (.int .i64 y.kind) ∧ wx.cell? ⟨wz.heap.size, 3, none⟩ = some (.string y.val) ∧ wx.cell? ⟨w8.heap.size, 0, none⟩ = some (.string y.key) ∧ wx.cell? ⟨w8.heap.size, 1, none⟩ = some (.int .u64 at_) ∧ wx.cell? ⟨w8.heap.size, 2, none⟩ = some (.int .i64 255) ∧ wx.cell? ⟨w8.heap.size, 3, none⟩ = some (.string ⟨#[]⟩))) (i := 11) (oi := { dst := some 123, op := Go.Op.call { callee := Go.Callee.value (Go.Operand.func 11), args := #[Go.Operand.tmp 121, Go.Operand.tmp 122], argTypes := #[30, 30] }, type := 3, pos := "law.go:123", after := #[{ on := 9, ground := Go.Ground.data }, { on := 10, ground := Go.Ground.data }, { on := 8, ground := Go.Ground.chain }, { on := 8, ground := Go.Ground.guard }], guard := some (8, true) }) (v := undef) rfl (by kernel_rfl) (by kernel_rfl) (by kernel_rfl) (fun _ _ _ h => h) (Or.inr ⟨by rfl, rfl⟩) HS ?rb11
                    try simp only [Act.put, List.setIfInBounds_toArray, List.set_cons_zero, List.set_cons_succ]
                    refine wpAnyH_take (S := (fun wx => wx.cell? ⟨wz.heap.size, 0, none⟩ = some (.string y.key) ∧ wx.cell? ⟨wz.heap.size, 1, none⟩ = some (.int .u64 y.seq) ∧ wx.cell? ⟨wz.heap.size, 2, none⟩ = some (.int .i64 y.kind) ∧ wx.cell? ⟨wz.heap.size, 3, none⟩ = some (.string y.val) ∧ wx.cell? ⟨w8.heap.size, 0, none⟩ = some (.string y.key) ∧ wx.cell? ⟨w8.heap.size, 1, none⟩ = some (.int .u64 at_) ∧ wx.cell? ⟨w8.heap.size, 2, none⟩ = some (.int .i64 255) ∧ wx.cell? ⟨w8.heap.size, 3, none⟩ = some (.string ⟨#[]⟩))) (i := 12) (oi := { dst := some 124, op := Go.Op.binOp Go.BinOp.lss 3 (Go.Operand.tmp 123) (Go.Operand.const (Go.Value.int Go.IntKind.i64 0)) 3, type := 4, pos := "law.go:123", after := #[{ on := 11, ground := Go.Ground.data }, { on := 8, ground := Go.Ground.guard }], guard := some (8, true) }) (v := undef) rfl (by kernel_rfl) (by kernel_rfl) (by kernel_rfl) (fun _ _ _ h => h) (Or.inr ⟨by rfl, rfl⟩) HS ?rb12
                    try simp only [Act.put, List.setIfInBounds_toArray, List.set_cons_zero, List.set_cons_succ]
                    refine wpAnyH_take (S := (fun wx => wx.cell? ⟨wz.heap.size, 0, none⟩ = some (.string y.key) ∧ wx.cell? ⟨wz.heap.size, 1, none⟩ = some (.int .u64 y.seq) ∧ wx.cell? ⟨wz.heap.size, 2, none⟩ = some (.int .i64 y.kind) ∧ wx.cell? ⟨wz.heap.size, 3, none⟩ = some (.string y.val) ∧ wx.cell? ⟨w8.heap.size, 0, none⟩ = some (.string y.key) ∧ wx.cell? ⟨w8.heap.size, 1, none⟩ = some (.int .u64 at_) ∧ wx.cell? ⟨w8.heap.size, 2, none⟩ = some (.int .i64 255) ∧ wx.cell? ⟨w8.heap.size, 3, none⟩ = some (.string ⟨#[]⟩))) (i := 13) (oi := { dst := some 125, op := Go.Op.fieldAddr 30 (Go.Operand.tmp 20) 1, type := 0, pos := "law.go:123", after := #[{ on := 8, ground := Go.Ground.guard }], guard := some (8, true) }) (v := undef) rfl (by kernel_rfl) (by kernel_rfl) (by kernel_rfl) (fun _ _ _ h => h) (Or.inr ⟨by rfl, rfl⟩) HS ?rb13
                    try simp only [Act.put, List.setIfInBounds_toArray, List.set_cons_zero, List.set_cons_succ]
                    refine wpAnyH_take (S := (fun wx => wx.cell? ⟨wz.heap.size, 0, none⟩ = some (.string y.key) ∧ wx.cell? ⟨wz.heap.size, 1, none⟩ = some (.int .u64 y.seq) ∧ wx.cell? ⟨wz.heap.size, 2, none⟩ = some (.int .i64 y.kind) ∧ wx.cell? ⟨wz.heap.size, 3, none⟩ = some (.string y.val) ∧ wx.cell? ⟨w8.heap.size, 0, none⟩ = some (.string y.key) ∧ wx.cell? ⟨w8.heap.size, 1, none⟩ = some (.int .u64 at_) ∧ wx.cell? ⟨w8.heap.size, 2, none⟩ = some (.int .i64 255) ∧ wx.cell? ⟨w8.heap.size, 3, none⟩ = some (.string ⟨#[]⟩))) (i := 14) (oi := { dst := some 126, op := Go.Op.load 23 (Go.Operand.tmp 125), type := 23, pos := "law.go:123", after := #[{ on := 13, ground := Go.Ground.data }, { on := 8, ground := Go.Ground.guard }], guard := some (8, true) }) (v := undef) rfl (by kernel_rfl) (by kernel_rfl) (by kernel_rfl) (fun _ _ _ h => h) (Or.inr ⟨by rfl, rfl⟩) HS ?rb14
                    try simp only [Act.put, List.setIfInBounds_toArray, List.set_cons_zero, List.set_cons_succ]
                    refine wpAnyH_take (S := (fun wx => wx.cell? ⟨wz.heap.size, 0, none⟩ = some (.string y.key) ∧ wx.cell? ⟨wz.heap.size, 1, none⟩ = some (.int .u64 y.seq) ∧ wx.cell? ⟨wz.heap.size, 2, none⟩ = some (.int .i64 y.kind) ∧ wx.cell? ⟨wz.heap.size, 3, none⟩ = some (.string y.val) ∧ wx.cell? ⟨w8.heap.size, 0, none⟩ = some (.string y.key) ∧ wx.cell? ⟨w8.heap.size, 1, none⟩ = some (.int .u64 at_) ∧ wx.cell? ⟨w8.heap.size, 2, none⟩ = some (.int .i64 255) ∧ wx.cell? ⟨w8.heap.size, 3, none⟩ = some (.string ⟨#[]⟩))) (i := 15) (oi := { dst := some 127, op := Go.Op.move (Go.Operand.tmp 2), type := 23, pos := "law.go:123", after := #[{ on := 8, ground := Go.Ground.guard }], guard := some (8, true) }) (v := undef) rfl (by kernel_rfl) (by kernel_rfl) (by kernel_rfl) (fun _ _ _ h => h) (Or.inr ⟨by rfl, rfl⟩) HS ?rb15
                    try simp only [Act.put, List.setIfInBounds_toArray, List.set_cons_zero, List.set_cons_succ]
                    refine wpAnyH_take (S := (fun wx => wx.cell? ⟨wz.heap.size, 0, none⟩ = some (.string y.key) ∧ wx.cell? ⟨wz.heap.size, 1, none⟩ = some (.int .u64 y.seq) ∧ wx.cell? ⟨wz.heap.size, 2, none⟩ = some (.int .i64 y.kind) ∧ wx.cell? ⟨wz.heap.size, 3, none⟩ = some (.string y.val) ∧ wx.cell? ⟨w8.heap.size, 0, none⟩ = some (.string y.key) ∧ wx.cell? ⟨w8.heap.size, 1, none⟩ = some (.int .u64 at_) ∧ wx.cell? ⟨w8.heap.size, 2, none⟩ = some (.int .i64 255) ∧ wx.cell? ⟨w8.heap.size, 3, none⟩ = some (.string ⟨#[]⟩))) (i := 16) (oi := { dst := some 128, op := Go.Op.binOp Go.BinOp.leq 23 (Go.Operand.tmp 126) (Go.Operand.tmp 127) 23, type := 4, pos := "law.go:123", after := #[{ on := 14, ground := Go.Ground.data }, { on := 15, ground := Go.Ground.data }, { on := 8, ground := Go.Ground.guard }], guard := some (8, true) }) (v := undef) rfl (by kernel_rfl) (by kernel_rfl) (by kernel_rfl) (fun _ _ _ h => h) (Or.inr ⟨by rfl, rfl⟩) HS ?rb16
                    try simp only [Act.put, List.setIfInBounds_toArray, List.set_cons_zero, List.set_cons_succ]
                    refine wpAnyH_take (S := (fun wx => wx.cell? ⟨wz.heap.size, 0, none⟩ = some (.string y.key) ∧ wx.cell? ⟨wz.heap.size, 1, none⟩ = some (.int .u64 y.seq) ∧ wx.cell? ⟨wz.heap.size, 2, none⟩ = some (.int .i64 y.kind) ∧ wx.cell? ⟨wz.heap.size, 3, none⟩ = some (.string y.val) ∧ wx.cell? ⟨w8.heap.size, 0, none⟩ = some (.string y.key) ∧ wx.cell? ⟨w8.heap.size, 1, none⟩ = some (.int .u64 at_) ∧ wx.cell? ⟨w8.heap.size, 2, none⟩ = some (.int .i64 255) ∧ wx.cell? ⟨w8.heap.size, 3, none⟩ = some (.string ⟨#[]⟩))) (i := 17) (oi := { dst := some 129, op := Go.Op.binOp Go.BinOp.neq 4 (Go.Operand.tmp 124) (Go.Operand.tmp 128) 4, type := 4, pos := "law.go:123", after := #[{ on := 12, ground := Go.Ground.data }, { on := 16, ground := Go.Ground.data }, { on := 8, ground := Go.Ground.guard }], guard := some (8, true) }) (v := undef) rfl (by kernel_rfl) (by kernel_rfl) (by kernel_rfl) (fun _ _ _ h => h) (Or.inr ⟨by rfl, rfl⟩) HS ?rb17
                    try simp only [Act.put, List.setIfInBounds_toArray, List.set_cons_zero, List.set_cons_succ]
                    refine wpAnyH_take (S := (fun wx => wx.cell? ⟨wz.heap.size, 0, none⟩ = some (.string y.key) ∧ wx.cell? ⟨wz.heap.size, 1, none⟩ = some (.int .u64 y.seq) ∧ wx.cell? ⟨wz.heap.size, 2, none⟩ = some (.int .i64 y.kind) ∧ wx.cell? ⟨wz.heap.size, 3, none⟩ = some (.string y.val) ∧ wx.cell? ⟨w8.heap.size, 0, none⟩ = some (.string y.key) ∧ wx.cell? ⟨w8.heap.size, 1, none⟩ = some (.int .u64 at_) ∧ wx.cell? ⟨w8.heap.size, 2, none⟩ = some (.int .i64 255) ∧ wx.cell? ⟨w8.heap.size, 3, none⟩ = some (.string ⟨#[]⟩))) (i := 18) (oi := { dst := some 130, op := Go.Op.pick (Go.Operand.tmp 120) (Go.Operand.tmp 129) (Go.Operand.const (Go.Value.bool false)), type := 4, pos := "law.go:123", after := #[{ on := 8, ground := Go.Ground.data }, { on := 17, ground := Go.Ground.data }], guard := none }) (v := .bool false) rfl (by kernel_rfl) (by kernel_rfl) (by kernel_rfl) (fun _ _ _ h => h) (Or.inl ⟨by rfl, ?yb18⟩) HS ?rb18
                    case yb18 => (intro w hSw; obtain ⟨s0, s1, s2, s3, s4, s5, s6, s7⟩ := hSw; go_simp; first | done | with_reducible rfl | simp [e1] | simp [e1, e2] | skip)
                    try simp only [Act.put, List.setIfInBounds_toArray, List.set_cons_zero, List.set_cons_succ]
                    refine wpAnyH_done (by kernel_rfl) ?_ _
                    refine NoPanic.normal ?_
                    go_wp2
                    go_roundw
                    case rel => exact ⟨j3 + 1, by omega, by go_num, B8d.out⟩
                    case measure => simp [intOf]; omega
                · go_wp2
                  go_ret
                  exact ⟨rfl, B0.out⟩
            · intro s y w' cnt' hmp hr' hlt2 hgr hsz hen
              have TS0 := R.out.step hr' hgr hsz
              have HG := Lib.hid (hN.out s y hmp)
              obtain ⟨hyE, hyk, hys⟩ := rget_at HG.out
              have hs85 : s.size ≤ 85 := by rw [← hyk]; exact (R.out.mem.good y hyE).k2
              have X0 := Lib.hid (e_box (W := w') y 30)
              have TX := Lib.hid (TS0.bel ((Below.refl _ w').alloc (Nat.le_refl _) (.cells #[.string y.key, .int .u64 y.seq, .int .i64 y.kind, .string y.val] 30)))
              obtain ⟨z0, z1, z2, z3⟩ := box4 X0.out
              have hinf := ent_info
              have HXF : Hid (w'.heap.size ∉ mfeet b lo v) := fun hm => by have := TS0.mem.lt _ hm; omega
              have hd : decide ((at_ : Int) < (y.seq : Int)) = false := by simp; omega
              clear hr' hgr TS0 hyE hmp hyk hsz
              go_wp2_with (first
                | (go_at_call 9; refine (get_r TX.out s at_ (by omega) HAT.out HG.out).mono ?_; rintro r w6 ⟨rfl, t6, m6⟩; have T6 := Lib.hid (t6.bel ((Below.refl _ w6).alloc (Nat.le_refl _) (.cells #[.string y.key, .int .u64 y.seq, .int .i64 y.kind, .string y.val] 30))); have X6 := Lib.hid (old_alloc ((m6.only.block _ (Array.getElem?_eq_some_iff.1 X0.out).1 HXF.out).trans X0.out) (.cells #[.string y.key, .int .u64 y.seq, .int .i64 y.kind, .string y.val] 30)); have Y6 := Lib.hid (e_box (W := w6) y 30); obtain ⟨q0, q1, q2, q3⟩ := box4 X6.out; obtain ⟨u0, u1, u2, u3⟩ := box4 Y6.out; clear t6 m6))
              go_roundw
              case rel => exact ⟨_, T6.out⟩
              case measure => rw [eran_left T6.out.ran, eran_left R.out.ran]; exact hlt2
end Go.Proofs.YtadejeoiffaimaaDoor.Me
