/-
  The law MemoPlays walked. Conditions: as each theorem states.
-/
import Derived.Test.YtadejeoiffaimaaGreatDoorMeYa
import Derived.Deep.RegionWith
namespace Go.Proofs.YtadejeoiffaimaaGreatDoor.Me
open Go.RowKit Go.Shelf
open Vi
open Go.Proofs.YtadejeoiffaimaaGreatDoor.Sk (feet Lst Moves Only NRow)

set_option maxRecDepth 100000 in
set_option maxHeartbeats 8000000 in
theorem plays_main {w : World} {A A2 : Option Addr} {c c2 : Nat} {l : List En} {nums : List Int} (key : ByteArray) (at_ mt : Nat) (m : Int) (RA : Hid (ERow w A l)) (RN : Hid (NRow w A2 nums)) (hl : l.length ≤ 60) (hnl : nums.length ≤ 100) (hk : key.size ≤ 300) (hat : at_ < 18446744073709551616) (hmt : mt ≤ 255) (hok : ∀ x ∈ l, okE l.length 60 x ∧ x.big) (hm : w.cell? ⟨0, 0, none⟩ = some (.int .i64 m)) :
    Calls Tryz.prog 3 #[.slice A l.length c, .slice A2 nums.length c2, .string key, .int .u64 at_, .int .u8 mt] w (LightE w true) := by
  have HO := Lib.hid hok
  have HO2 : Hid (∀ x ∈ l, okE l.length 60 x) := fun x hx => (hok x hx).1
  have HM := Lib.hid hm
  have HAT := Lib.hid hat
  have hd2 : decide ((300 : Int) < (key.size : Int)) = false := by simp; omega
  have hd3 : decide ((100 : Int) < (nums.length : Int)) = false := by simp; omega
  clear hok hm hat
  go_enter Tryz.func3, Tryz.ntmps3
  go_wp2_with (first
    | (go_at_call 4; (with_reducible refine (awake_any _ m HM.out).mono ?_); rintro e w1 ⟨rfl, b1⟩; have B1 := Lib.hid b1; clear b1)
    | (go_at_call 5; (with_reducible refine (light_all (m := 60) (mi := 60) rfl (erow_on RA B1.out) (by omega) (by decide) HO2.out).mono ?_); rintro e w2 ⟨rfl, b2⟩; have B2 := Lib.hid (B1.out.trans (b2.mono B1.out.size)); have M2 := Lib.hid (cell0_below HM.out B2.out); clear b2)
    | (go_at_call 6; refine (new_any m M2.out).mono ?_; rintro e w3 ⟨b, lo, rfl, h3, hf3, b3⟩; have T0 := Lib.hid (PSM.start B2.out h3 hf3 b3); clear h3 hf3 b3))
  clear M2
  go_loopw [12, 43] (PlM w b lo m l) (fun _ i _ => l.length - (intOf i).toNat)
  case atStart => exact ⟨0, 0, _, [], by omega, rfl, by omega, T0.out, by simp⟩
  case round =>
    obtain ⟨j, n, v, E, hj, rfl, hn, T, hsz⟩ := hrel
    replace T := Lib.hid T
    clear T0
    have hEn := T.out.len
    subst hEn
    by_cases hlt : j < l.length
    · obtain ⟨a, rfl, hab, hca⟩ := RA.out (by omega)
      obtain ⟨x0, x1, x2, x3⟩ := hca j hlt
      obtain ⟨k0, k1, k2, k3⟩ := hca 0 (by omega)
      have ha0 : a.add (0 * 4) = a := by cases a; simp [Addr.add]
      rw [ha0] at k0 k1 k2 k3
      obtain ⟨⟨o1, o2, o3⟩, o4⟩ := HO.out l[j] (List.getElem_mem hlt)
      have hbl : (a.add (j * 4)).block < w.heap.size := by rw [block_add]; exact hab
      rw [← T.out.below.cell (p := a.add (j * 4)) hbl] at x0
      rw [← T.out.below.cell (p := ⟨(a.add (j * 4)).block, (a.add (j * 4)).off + 1, none⟩) hbl] at x1
      rw [← T.out.below.cell (p := ⟨(a.add (j * 4)).block, (a.add (j * 4)).off + 2, none⟩) hbl] at x2
      rw [← T.out.below.cell (p := ⟨(a.add (j * 4)).block, (a.add (j * 4)).off + 3, none⟩) hbl] at x3
      have K0 := Lib.hid (And.intro k0 (And.intro k1 (And.intro k2 k3)))
      have O4 := Lib.hid o4
      clear hca hbl k0 k1 k2 k3 o4 ha0
      have hl0 : 0 < l.length := by omega
      generalize l[j] = y at *
      generalize l[0]'(by omega) = y0 at *
      have X0 := Lib.hid (e_box (W := wr) y 30)
      have TX := Lib.hid (T.out.bel ((Below.refl _ wr).alloc (Nat.le_refl _) (.cells #[.string y.key, .int .u64 y.seq, .int .i64 y.kind, .string y.val] 30)))
      obtain ⟨z0, z1, z2, z3⟩ := box4 X0.out
      have hinf := ent_info
      have HXF : Hid (wr.heap.size ∉ mfeet b lo v) := fun hm => by have := T.out.mem.lt _ hm; omega
      have hnum : j < nums.length → ∃ a2, A2 = some a2 ∧ (wr.alloc (.cells #[.string y.key, .int .u64 y.seq, .int .i64 y.kind, .string y.val] 30)).cell? (a2.add j) = some (.int .i64 (nums[j]?.getD 0)) := fun h => by
        obtain ⟨a2, rfl, hab2, hc2⟩ := RN.out (by omega)
        refine ⟨a2, rfl, ?_⟩
        rw [TX.out.below.cell (p := a2.add j) (by rw [block_add]; exact hab2), hc2 j h]
        simp [h]
      obtain ⟨Aq, cq, rfl⟩ := row_len T.out.row
      by_cases hgd : chkE y = 0
      · have HY := Lib.hid (good_chk hgd)
        have HSZ := Lib.hid (add_sizes hsz ⟨o2, o3⟩)
        obtain ⟨ye, hye⟩ : ∃ ye, (rgetE (addE E y) key at_).getD noEn = ye := ⟨_, rfl⟩
        obtain ⟨yb, hyb⟩ : ∃ yb, (rgetE (addE E y) key at_).isSome = yb := ⟨_, rfl⟩
        have HYE := Lib.hid hye
        have HYB := Lib.hid hyb
        clear hye hyb hgd hsz
        rcases (by omega : j < nums.length ∨ ¬ j < nums.length) with hjn | hjn
        · obtain ⟨a2, rfl, hcn⟩ := hnum hjn
          clear hnum
          generalize nums[j]?.getD 0 = hh at hcn
          go_wp2_with (first
            | (go_at_call 7; (with_reducible refine (radd_good TX.out y HY.out (by omega)).mono ?_); rintro r w5 ⟨⟨Ar, cr, rfl, hr5, ho5⟩, t5, b5⟩; have X5 := Lib.hid (keep_b X0.out b5); have T5 := Lib.hid t5; have R5 := Lib.hid (And.intro hr5 ho5); obtain ⟨p0, p1, p2, p3⟩ := box4 X5.out; clear hr5 ho5 t5 b5))
          have T5d := Lib.hid (T5.out.bel (below_drew w5))
          have R5d : Hid (EAt w5.drew (.slice Ar (addE E y).length cr) (addE E y) ∧ ∀ g, (Value.slice Ar (addE E y).length cr).ownBlock = some g → g ∉ mfeet b lo v ∧ g < w5.drew.heap.size) := ⟨R5.out.1.below (below_drew w5), R5.out.2⟩
          have X5d : Hid (w5.drew.heap[wr.heap.size]? = some (.cells #[.string y.key, .int .u64 y.seq, .int .i64 y.kind, .string y.val] 30 (0, 0))) := X5.out
          go_region_held3 (fun wx => wx.cell? ⟨wr.heap.size, 0, none⟩ = some (.string y.key) ∧ wx.cell? ⟨wr.heap.size, 1, none⟩ = some (.int .u64 y.seq) ∧ wx.cell? ⟨wr.heap.size, 2, none⟩ = some (.int .i64 y.kind) ∧ wx.cell? ⟨wr.heap.size, 3, none⟩ = some (.string y.val) ∧ wx.cell? a = some (.string y0.key) ∧ wx.cell? ⟨a.block, a.off + 1, none⟩ = some (.int .u64 y0.seq) ∧ wx.cell? ⟨a.block, a.off + 2, none⟩ = some (.int .i64 y0.kind) ∧ wx.cell? ⟨a.block, a.off + 3, none⟩ = some (.string y0.val))
            (first | exact s8 X5d.out K0.out hab T5d.out.below | exact s8 X7.out K0.out hab T7.out.below | exact s8 X8.out K0.out hab T8.out.below | exact s8 X9.out K0.out hab T9.out.below)
            (first
              | (go_at_call 8; refine (add_any T5d.out.mem y HY.out (by omega) (by omega) hh).mono ?_; rintro r w7 ⟨rfl, v7, n7, h7, hn7, m7⟩; have T7 := Lib.hid (T5d.out.moved h7 m7 R5d.out.1 R5d.out.2); have X7 := Lib.hid (T5d.out.block m7 X5d.out HXF.out); clear h7 m7)
              | (go_at_call 9; refine (compare_any y y0 _).mono ?_; rintro r w8 ⟨rfl, b8⟩; have T8 := Lib.hid (T7.out.bel b8); have X8 := Lib.hid (keep_b X7.out b8); clear b8)
              | (go_at_call 10; refine (order_any y y0 _).mono ?_; rintro r w9 ⟨rfl, b9⟩; have T9 := Lib.hid (T8.out.bel b9); have X9 := Lib.hid (keep_b X8.out b9); clear b9))
          have HT9 : Hid (bytesE (addE E y) ≤ 1000000000 ∧ ((addE E y)).length ≤ 900) := ⟨by have := bytes_le (addE E y) HSZ.out; have := T9.out.len; omega, by have := T9.out.len; omega⟩
          go_wp2_with (first
            | (go_at_call 11; refine (get_t T9.out key at_ (by omega) HAT.out HYE.out HYB.out).mono ?_; rintro r w10 ⟨rfl, t10, m10⟩; have T10 := Lib.hid (t10.bel ((Below.refl _ w10).alloc (Nat.le_refl _) (.cells #[.string ye.key, .int .u64 ye.seq, .int .i64 ye.kind, .string ye.val] 30))); have X10 := Lib.hid (e_box (W := w10) ye 30); clear t10 m10)
            | (go_at_call 12; refine (rget_t T10.out key at_ (by omega) HYE.out HYB.out).mono ?_; rintro r w11 ⟨rfl, b11⟩; have T11 := Lib.hid ((T10.out.bel b11).bel ((Below.refl _ w11).alloc (Nat.le_refl _) (.cells #[.string ye.key, .int .u64 ye.seq, .int .i64 ye.kind, .string ye.val] 30))); have X11 := Lib.hid (box_at (keep_b X10.out b11) (.cells #[.string ye.key, .int .u64 ye.seq, .int .i64 ye.kind, .string ye.val] 30)); obtain ⟨r0, r1, r2, r3⟩ := box4 X11.out; obtain ⟨u0, u1, u2, u3⟩ := box4 (e_box (W := w11) ye 30); clear b11)
            | (go_at_call 13; refine (len_any T11.out.mem).mono ?_; rintro r w' ⟨rfl, rfl⟩)
            | (go_at_call 14; refine (bytes_any T11.out.mem HT9.out.1).mono ?_; rintro r w12 ⟨rfl, b12⟩; have T12 := Lib.hid (T11.out.bel b12); clear b12)
            | (go_at_call 15; refine (rbytes_e T12.out.row (by have := HT9.out.2; omega) HSZ.out).mono ?_; rintro r w13 ⟨rfl, b13⟩; have T13 := Lib.hid (T12.out.bel b13); clear b13))
          go_roundw
          case rel => exact ⟨j + 1, n7, v7, (addE E y), by omega, by go_num, by omega, T13.out, HSZ.out⟩
          case measure => simp [intOf]; omega
        · clear hnum
          go_wp2_with (first
            | (go_at_call 7; (with_reducible refine (radd_good TX.out y HY.out (by omega)).mono ?_); rintro r w5 ⟨⟨Ar, cr, rfl, hr5, ho5⟩, t5, b5⟩; have X5 := Lib.hid (keep_b X0.out b5); have T5 := Lib.hid t5; have R5 := Lib.hid (And.intro hr5 ho5); obtain ⟨p0, p1, p2, p3⟩ := box4 X5.out; clear hr5 ho5 t5 b5))
          have T5d := Lib.hid (T5.out.bel (below_drew w5))
          have R5d : Hid (EAt w5.drew (.slice Ar (addE E y).length cr) (addE E y) ∧ ∀ g, (Value.slice Ar (addE E y).length cr).ownBlock = some g → g ∉ mfeet b lo v ∧ g < w5.drew.heap.size) := ⟨R5.out.1.below (below_drew w5), R5.out.2⟩
          have X5d : Hid (w5.drew.heap[wr.heap.size]? = some (.cells #[.string y.key, .int .u64 y.seq, .int .i64 y.kind, .string y.val] 30 (0, 0))) := X5.out
          go_region_held3 (fun wx => wx.cell? ⟨wr.heap.size, 0, none⟩ = some (.string y.key) ∧ wx.cell? ⟨wr.heap.size, 1, none⟩ = some (.int .u64 y.seq) ∧ wx.cell? ⟨wr.heap.size, 2, none⟩ = some (.int .i64 y.kind) ∧ wx.cell? ⟨wr.heap.size, 3, none⟩ = some (.string y.val) ∧ wx.cell? a = some (.string y0.key) ∧ wx.cell? ⟨a.block, a.off + 1, none⟩ = some (.int .u64 y0.seq) ∧ wx.cell? ⟨a.block, a.off + 2, none⟩ = some (.int .i64 y0.kind) ∧ wx.cell? ⟨a.block, a.off + 3, none⟩ = some (.string y0.val))
            (first | exact s8 X5d.out K0.out hab T5d.out.below | exact s8 X7.out K0.out hab T7.out.below | exact s8 X8.out K0.out hab T8.out.below | exact s8 X9.out K0.out hab T9.out.below)
            (first
              | (go_at_call 8; refine (add_any T5d.out.mem y HY.out (by omega) (by omega) 1).mono ?_; rintro r w7 ⟨rfl, v7, n7, h7, hn7, m7⟩; have T7 := Lib.hid (T5d.out.moved h7 m7 R5d.out.1 R5d.out.2); have X7 := Lib.hid (T5d.out.block m7 X5d.out HXF.out); clear h7 m7)
              | (go_at_call 9; refine (compare_any y y0 _).mono ?_; rintro r w8 ⟨rfl, b8⟩; have T8 := Lib.hid (T7.out.bel b8); have X8 := Lib.hid (keep_b X7.out b8); clear b8)
              | (go_at_call 10; refine (order_any y y0 _).mono ?_; rintro r w9 ⟨rfl, b9⟩; have T9 := Lib.hid (T8.out.bel b9); have X9 := Lib.hid (keep_b X8.out b9); clear b9))
          have HT9 : Hid (bytesE (addE E y) ≤ 1000000000 ∧ ((addE E y)).length ≤ 900) := ⟨by have := bytes_le (addE E y) HSZ.out; have := T9.out.len; omega, by have := T9.out.len; omega⟩
          go_wp2_with (first
            | (go_at_call 11; refine (get_t T9.out key at_ (by omega) HAT.out HYE.out HYB.out).mono ?_; rintro r w10 ⟨rfl, t10, m10⟩; have T10 := Lib.hid (t10.bel ((Below.refl _ w10).alloc (Nat.le_refl _) (.cells #[.string ye.key, .int .u64 ye.seq, .int .i64 ye.kind, .string ye.val] 30))); have X10 := Lib.hid (e_box (W := w10) ye 30); clear t10 m10)
            | (go_at_call 12; refine (rget_t T10.out key at_ (by omega) HYE.out HYB.out).mono ?_; rintro r w11 ⟨rfl, b11⟩; have T11 := Lib.hid ((T10.out.bel b11).bel ((Below.refl _ w11).alloc (Nat.le_refl _) (.cells #[.string ye.key, .int .u64 ye.seq, .int .i64 ye.kind, .string ye.val] 30))); have X11 := Lib.hid (box_at (keep_b X10.out b11) (.cells #[.string ye.key, .int .u64 ye.seq, .int .i64 ye.kind, .string ye.val] 30)); obtain ⟨r0, r1, r2, r3⟩ := box4 X11.out; obtain ⟨u0, u1, u2, u3⟩ := box4 (e_box (W := w11) ye 30); clear b11)
            | (go_at_call 13; refine (len_any T11.out.mem).mono ?_; rintro r w' ⟨rfl, rfl⟩)
            | (go_at_call 14; refine (bytes_any T11.out.mem HT9.out.1).mono ?_; rintro r w12 ⟨rfl, b12⟩; have T12 := Lib.hid (T11.out.bel b12); clear b12)
            | (go_at_call 15; refine (rbytes_e T12.out.row (by have := HT9.out.2; omega) HSZ.out).mono ?_; rintro r w13 ⟨rfl, b13⟩; have T13 := Lib.hid (T12.out.bel b13); clear b13))
          go_roundw
          case rel => exact ⟨j + 1, n7, v7, (addE E y), by omega, by go_num, by omega, T13.out, HSZ.out⟩
          case measure => simp [intOf]; omega
      · have HSZ := Lib.hid hsz
        obtain ⟨ye, hye⟩ : ∃ ye, (rgetE E key at_).getD noEn = ye := ⟨_, rfl⟩
        obtain ⟨yb, hyb⟩ : ∃ yb, (rgetE E key at_).isSome = yb := ⟨_, rfl⟩
        have HYE := Lib.hid hye
        have HYB := Lib.hid hyb
        have HRB := Lib.hid (radd_bad TX.out y hgd (by omega))
        have HAB := Lib.hid (fun (W : World) (height : Int) => add_bad (w := W) b y hgd height)
        generalize chkE y = ce at HRB HAB
        clear hye hyb hgd hsz
        rcases (by omega : j < nums.length ∨ ¬ j < nums.length) with hjn | hjn
        · obtain ⟨a2, rfl, hcn⟩ := hnum hjn
          clear hnum
          generalize nums[j]?.getD 0 = hh at hcn
          go_wp2_with (first
            | (go_at_call 7; (with_reducible refine (HRB.out).mono ?_); rintro r w5 ⟨rfl, b5⟩; have X5 := Lib.hid (keep_b X0.out b5); have T5 := Lib.hid (TX.out.bel b5); obtain ⟨p0, p1, p2, p3⟩ := box4 X5.out; clear b5))
          have T5d := Lib.hid (T5.out.bel (below_drew w5))
          have X5d : Hid (w5.drew.heap[wr.heap.size]? = some (.cells #[.string y.key, .int .u64 y.seq, .int .i64 y.kind, .string y.val] 30 (0, 0))) := X5.out
          go_region_held3 (fun wx => wx.cell? ⟨wr.heap.size, 0, none⟩ = some (.string y.key) ∧ wx.cell? ⟨wr.heap.size, 1, none⟩ = some (.int .u64 y.seq) ∧ wx.cell? ⟨wr.heap.size, 2, none⟩ = some (.int .i64 y.kind) ∧ wx.cell? ⟨wr.heap.size, 3, none⟩ = some (.string y.val) ∧ wx.cell? a = some (.string y0.key) ∧ wx.cell? ⟨a.block, a.off + 1, none⟩ = some (.int .u64 y0.seq) ∧ wx.cell? ⟨a.block, a.off + 2, none⟩ = some (.int .i64 y0.kind) ∧ wx.cell? ⟨a.block, a.off + 3, none⟩ = some (.string y0.val))
            (first | exact s8 X5d.out K0.out hab T5d.out.below | exact s8 X7.out K0.out hab T7.out.below | exact s8 X8.out K0.out hab T8.out.below | exact s8 X9.out K0.out hab T9.out.below)
            (first
              | (go_at_call 8; refine (HAB.out _ hh).mono ?_; rintro r w7 ⟨rfl, b7⟩; have T7 := Lib.hid (T5d.out.bel b7); have X7 := Lib.hid (keep_b X5d.out b7); clear b7)
              | (go_at_call 9; refine (compare_any y y0 _).mono ?_; rintro r w8 ⟨rfl, b8⟩; have T8 := Lib.hid (T7.out.bel b8); have X8 := Lib.hid (keep_b X7.out b8); clear b8)
              | (go_at_call 10; refine (order_any y y0 _).mono ?_; rintro r w9 ⟨rfl, b9⟩; have T9 := Lib.hid (T8.out.bel b9); have X9 := Lib.hid (keep_b X8.out b9); clear b9))
          have HT9 : Hid (bytesE E ≤ 1000000000 ∧ (E).length ≤ 900) := ⟨by have := bytes_le E HSZ.out; have := T9.out.len; omega, by have := T9.out.len; omega⟩
          go_wp2_with (first
            | (go_at_call 11; refine (get_t T9.out key at_ (by omega) HAT.out HYE.out HYB.out).mono ?_; rintro r w10 ⟨rfl, t10, m10⟩; have T10 := Lib.hid (t10.bel ((Below.refl _ w10).alloc (Nat.le_refl _) (.cells #[.string ye.key, .int .u64 ye.seq, .int .i64 ye.kind, .string ye.val] 30))); have X10 := Lib.hid (e_box (W := w10) ye 30); clear t10 m10)
            | (go_at_call 12; refine (rget_t T10.out key at_ (by omega) HYE.out HYB.out).mono ?_; rintro r w11 ⟨rfl, b11⟩; have T11 := Lib.hid ((T10.out.bel b11).bel ((Below.refl _ w11).alloc (Nat.le_refl _) (.cells #[.string ye.key, .int .u64 ye.seq, .int .i64 ye.kind, .string ye.val] 30))); have X11 := Lib.hid (box_at (keep_b X10.out b11) (.cells #[.string ye.key, .int .u64 ye.seq, .int .i64 ye.kind, .string ye.val] 30)); obtain ⟨r0, r1, r2, r3⟩ := box4 X11.out; obtain ⟨u0, u1, u2, u3⟩ := box4 (e_box (W := w11) ye 30); clear b11)
            | (go_at_call 13; refine (len_any T11.out.mem).mono ?_; rintro r w' ⟨rfl, rfl⟩)
            | (go_at_call 14; refine (bytes_any T11.out.mem HT9.out.1).mono ?_; rintro r w12 ⟨rfl, b12⟩; have T12 := Lib.hid (T11.out.bel b12); clear b12)
            | (go_at_call 15; refine (rbytes_e T12.out.row (by have := HT9.out.2; omega) HSZ.out).mono ?_; rintro r w13 ⟨rfl, b13⟩; have T13 := Lib.hid (T12.out.bel b13); clear b13))
          go_roundw
          case rel => exact ⟨j + 1, E.length, v, E, by omega, by go_num, by omega, T13.out, HSZ.out⟩
          case measure => simp [intOf]; omega
        · clear hnum
          go_wp2_with (first
            | (go_at_call 7; (with_reducible refine (HRB.out).mono ?_); rintro r w5 ⟨rfl, b5⟩; have X5 := Lib.hid (keep_b X0.out b5); have T5 := Lib.hid (TX.out.bel b5); obtain ⟨p0, p1, p2, p3⟩ := box4 X5.out; clear b5))
          have T5d := Lib.hid (T5.out.bel (below_drew w5))
          have X5d : Hid (w5.drew.heap[wr.heap.size]? = some (.cells #[.string y.key, .int .u64 y.seq, .int .i64 y.kind, .string y.val] 30 (0, 0))) := X5.out
          go_region_held3 (fun wx => wx.cell? ⟨wr.heap.size, 0, none⟩ = some (.string y.key) ∧ wx.cell? ⟨wr.heap.size, 1, none⟩ = some (.int .u64 y.seq) ∧ wx.cell? ⟨wr.heap.size, 2, none⟩ = some (.int .i64 y.kind) ∧ wx.cell? ⟨wr.heap.size, 3, none⟩ = some (.string y.val) ∧ wx.cell? a = some (.string y0.key) ∧ wx.cell? ⟨a.block, a.off + 1, none⟩ = some (.int .u64 y0.seq) ∧ wx.cell? ⟨a.block, a.off + 2, none⟩ = some (.int .i64 y0.kind) ∧ wx.cell? ⟨a.block, a.off + 3, none⟩ = some (.string y0.val))
            (first | exact s8 X5d.out K0.out hab T5d.out.below | exact s8 X7.out K0.out hab T7.out.below | exact s8 X8.out K0.out hab T8.out.below | exact s8 X9.out K0.out hab T9.out.below)
            (first
              | (go_at_call 8; refine (HAB.out _ 1).mono ?_; rintro r w7 ⟨rfl, b7⟩; have T7 := Lib.hid (T5d.out.bel b7); have X7 := Lib.hid (keep_b X5d.out b7); clear b7)
              | (go_at_call 9; refine (compare_any y y0 _).mono ?_; rintro r w8 ⟨rfl, b8⟩; have T8 := Lib.hid (T7.out.bel b8); have X8 := Lib.hid (keep_b X7.out b8); clear b8)
              | (go_at_call 10; refine (order_any y y0 _).mono ?_; rintro r w9 ⟨rfl, b9⟩; have T9 := Lib.hid (T8.out.bel b9); have X9 := Lib.hid (keep_b X8.out b9); clear b9))
          have HT9 : Hid (bytesE E ≤ 1000000000 ∧ (E).length ≤ 900) := ⟨by have := bytes_le E HSZ.out; have := T9.out.len; omega, by have := T9.out.len; omega⟩
          go_wp2_with (first
            | (go_at_call 11; refine (get_t T9.out key at_ (by omega) HAT.out HYE.out HYB.out).mono ?_; rintro r w10 ⟨rfl, t10, m10⟩; have T10 := Lib.hid (t10.bel ((Below.refl _ w10).alloc (Nat.le_refl _) (.cells #[.string ye.key, .int .u64 ye.seq, .int .i64 ye.kind, .string ye.val] 30))); have X10 := Lib.hid (e_box (W := w10) ye 30); clear t10 m10)
            | (go_at_call 12; refine (rget_t T10.out key at_ (by omega) HYE.out HYB.out).mono ?_; rintro r w11 ⟨rfl, b11⟩; have T11 := Lib.hid ((T10.out.bel b11).bel ((Below.refl _ w11).alloc (Nat.le_refl _) (.cells #[.string ye.key, .int .u64 ye.seq, .int .i64 ye.kind, .string ye.val] 30))); have X11 := Lib.hid (box_at (keep_b X10.out b11) (.cells #[.string ye.key, .int .u64 ye.seq, .int .i64 ye.kind, .string ye.val] 30)); obtain ⟨r0, r1, r2, r3⟩ := box4 X11.out; obtain ⟨u0, u1, u2, u3⟩ := box4 (e_box (W := w11) ye 30); clear b11)
            | (go_at_call 13; refine (len_any T11.out.mem).mono ?_; rintro r w' ⟨rfl, rfl⟩)
            | (go_at_call 14; refine (bytes_any T11.out.mem HT9.out.1).mono ?_; rintro r w12 ⟨rfl, b12⟩; have T12 := Lib.hid (T11.out.bel b12); clear b12)
            | (go_at_call 15; refine (rbytes_e T12.out.row (by have := HT9.out.2; omega) HSZ.out).mono ?_; rintro r w13 ⟨rfl, b13⟩; have T13 := Lib.hid (T12.out.bel b13); clear b13))
          go_roundw
          case rel => exact ⟨j + 1, E.length, v, E, by omega, by go_num, by omega, T13.out, HSZ.out⟩
          case measure => simp [intOf]; omega
    · have hE60 : E.length ≤ 60 := by omega
      have huL := from_len E key
      have hdL : (downE E key).length ≤ E.length := (gives_len (.inr ⟨key, rfl, rfl, rfl⟩)).1
      have HU2 : Hid ((fromE E key).take 200 = fromE E key) := List.take_of_length_le (by omega)
      have HD2 : Hid ((downE E key).take 200 = downE E key) := List.take_of_length_le (by omega)
      have HP2 : Hid (E.take 200 = E) := List.take_of_length_le (by omega)
      obtain ⟨um, hum⟩ : ∃ um, (fromE E key).take mt = um := ⟨_, rfl⟩
      obtain ⟨dm, hdm⟩ : ∃ dm, (downE E key).take mt = dm := ⟨_, rfl⟩
      have HUk : Hid (um.length ≤ 100000) := by rw [Hid, ← hum, List.length_take]; omega
      have HDk : Hid (dm.length ≤ 100000) := by rw [Hid, ← hdm, List.length_take]; omega
      have HUl : Hid ((fromE E key).length ≤ 100000) := by rw [Hid]; omega
      have HDl : Hid ((downE E key).length ≤ 100000) := by rw [Hid]; omega
      have HPl : Hid (E.length ≤ 100000) := by rw [Hid]; omega
      have HK : Hid (key.size ≤ 1000000) := by rw [Hid]; omega
      have cutU : ∀ {W : World} {A0 : Option Addr} {c0 N : Nat}, EAt W (.slice A0 (fromE E key).length c0) (fromE E key) → (N : Int) = min (mt : Int) ((fromE E key).length : Int) → EAt W (.slice A0 N c0) um := fun {W A0 c0 N} h hN => by
        have h2 := cut_at h hN
        rw [hum] at h2; exact h2
      have cutD : ∀ {W : World} {A0 : Option Addr} {c0 N : Nat}, EAt W (.slice A0 (downE E key).length c0) (downE E key) → (N : Int) = min (mt : Int) ((downE E key).length : Int) → EAt W (.slice A0 N c0) dm := fun {W A0 c0 N} h hN => by
        have h2 := cut_at h hN
        rw [hdm] at h2; exact h2
      have HUm := Lib.hid hum
      have HDm := Lib.hid hdm
      clear hum hdm hsz
      obtain ⟨Aq, cq, rfl⟩ := row_len T.out.row
      go_wp2_with (first
        | (go_at_call 17; have Z := U20; refine (rdown_t T20.out key (by omega)).mono ?_; rintro r w21 ⟨⟨A21, c21, rfl, hk21, hc21⟩, hb⟩; have mb1 : (0 : Int) ≤ min (mt : Int) ((downE E key).length : Int) := (by omega); have mb2 : min (mt : Int) ((downE E key).length : Int) ≤ (c21 : Int) := (by omega); have T21 := Lib.hid (T20.out.bel hb); have U21 := Lib.hid (km_bel U20.out hb); have D21 := Lib.hid hk21; have T21d := Lib.hid (T21.out.bel (below_drew _)); have U21d := Lib.hid (km_bel U21.out (below_drew _)); have D21d := Lib.hid (km_bel D21.out (below_drew _)); clear hk21 hb)
        | (go_at_call 16; refine (rfrom_t T.out key (by omega)).mono ?_; rintro r w20 ⟨⟨A20, c20, rfl, hk20, hc20⟩, hb⟩; have ma1 : (0 : Int) ≤ min (mt : Int) ((fromE E key).length : Int) := (by omega); have ma2 : min (mt : Int) ((fromE E key).length : Int) ≤ (c20 : Int) := (by omega); have T20 := Lib.hid (T.out.bel hb); have U20 := Lib.hid hk20; clear hk20 hb))
      refine wp_region_noPanic ?_
      refine wp_region_held_drew (S := fun _ => True) (by kernel_rfl) trivial (fun _ => ?_)
      refine wpAnyH_take (S := fun _ => True) (i := 0) (oi := { dst := some 127, op := Go.Op.move (Go.Operand.tmp 11), type := 27, pos := "law.go:90", after := #[], guard := none }) (v := ?v1) rfl (by kernel_rfl) (by kernel_rfl) (by kernel_rfl) (fun _ _ _ h => h) (Or.inl ⟨by rfl, ?y1⟩) trivial ?r1
      case y1 => (intro w hSw; go_simp; try with_reducible rfl)
      try simp only [Act.put, List.setIfInBounds_toArray, List.set_cons_zero, List.set_cons_succ]
      refine wpAnyH_take (S := fun _ => True) (i := 3) (oi := { dst := some 130, op := Go.Op.move (Go.Operand.tmp 12), type := 22, pos := "law.go:90", after := #[], guard := none }) (v := ?v2) rfl (by kernel_rfl) (by kernel_rfl) (by kernel_rfl) (fun _ _ _ h => h) (Or.inl ⟨by rfl, ?y2⟩) trivial ?r2
      case y2 => (intro w hSw; go_simp; try with_reducible rfl)
      try simp only [Act.put, List.setIfInBounds_toArray, List.set_cons_zero, List.set_cons_succ]
      refine wpAnyH_ready (rs := [1]) (by kernel_rfl) (by simp) ?_
      refine AllReadyH.cons (o := { dst := some 128, op := Go.Op.call { callee := Go.Callee.value (Go.Operand.func 20), args := #[Go.Operand.tmp 127], argTypes := #[27] }, type := 45, pos := "law.go:90", after := #[{ on := 0, ground := Go.Ground.data }], guard := none }) rfl (fun K hK => ?_) AllReadyH.nil
      go_simp
      (go_at_call 20; refine (all_t T21d.out).mono ?_; rintro r w22 ⟨bl22, rfl, hc, hb⟩; have C22 := Lib.hid hc; have T22 := Lib.hid (T21d.out.bel hb); have U22 := Lib.hid (km_bel U21d.out hb); have D22 := Lib.hid (km_bel D21d.out hb); clear hc hb)
      refine hK.out _ _ trivial (fun _ => ?_)
      clear hK K
      try simp only [Act.put, List.setIfInBounds_toArray, List.set_cons_zero, List.set_cons_succ]
      refine wpAnyH_ready (rs := [2]) (by kernel_rfl) (by simp) ?_
      refine AllReadyH.cons (o := { dst := some 129, op := Go.Op.call { callee := Go.Callee.value (Go.Operand.func 19), args := #[Go.Operand.tmp 128, Go.Operand.const (Go.Value.int Go.IntKind.i64 200)], argTypes := #[45, 3] }, type := 22, pos := "law.go:90", after := #[{ on := 1, ground := Go.Ground.data }, { on := 1, ground := Go.Ground.chain }], guard := none }) rfl (fun K hK => ?_) AllReadyH.nil
      go_simp
      (go_at_call 19; refine (row_t T22.out C22.out (.inl ⟨⟨#[]⟩, rfl, rfl, from_all.symm⟩) (by omega) 200 (by omega) (mi := 200) rfl HP2.out).mono ?_; rintro r w23 ⟨A23, c23, rfl, hr, ht, hM⟩; have R23 := Lib.hid hr; have T23 := Lib.hid ht; have U23 := Lib.hid (km_moved U22.out hM); have D23 := Lib.hid (km_moved D22.out hM); clear hr ht hM)
      refine hK.out _ _ trivial (fun _ => ?_)
      clear hK K
      try simp only [Act.put, List.setIfInBounds_toArray, List.set_cons_zero, List.set_cons_succ]
      refine wpAnyH_ready (rs := [4]) (by kernel_rfl) (by simp) ?_
      refine AllReadyH.cons (o := { dst := some 131, op := Go.Op.call { callee := Go.Callee.value (Go.Operand.func 18), args := #[Go.Operand.tmp 129, Go.Operand.tmp 130], argTypes := #[22, 22] }, type := 4, pos := "law.go:90", after := #[{ on := 2, ground := Go.Ground.data }, { on := 3, ground := Go.Ground.data }, { on := 2, ground := Go.Ground.chain }], guard := none }) rfl (fun K hK => ?_) AllReadyH.nil
      go_simp
      (go_at_call 18; refine (same_e (km_at R23.out) T23.out.row HPl.out).mono ?_; rintro r w24 ⟨rfl, hb⟩; have T24 := Lib.hid (T23.out.bel hb); have U24 := Lib.hid (km_bel U23.out hb); have D24 := Lib.hid (km_bel D23.out hb); clear hb)
      refine hK.out _ _ trivial (fun _ => ?_)
      clear hK K
      try simp only [Act.put, List.setIfInBounds_toArray, List.set_cons_zero, List.set_cons_succ]
      try clear R23
      try clear T23
      try clear U23
      try clear D23
      try clear C22
      try clear T22
      try clear U22
      try clear D22
      try clear T21d
      try clear U21d
      try clear D21d
      try clear T21
      try clear U21
      try clear D21
      try clear T20
      try clear U20
      try clear T
      refine wpAnyH_take (S := fun _ => True) (i := 5) (oi := { dst := some 132, op := Go.Op.move (Go.Operand.tmp 131), type := 4, pos := "law.go:90", after := #[{ on := 4, ground := Go.Ground.data }, { on := 4, ground := Go.Ground.chain }], guard := none }) (v := ?v3) rfl (by kernel_rfl) (by kernel_rfl) (by kernel_rfl) (fun _ _ _ h => h) (Or.inl ⟨by rfl, ?y3⟩) trivial ?r3
      case y3 => (intro w hSw; go_simp; try with_reducible rfl)
      try simp only [Act.put, List.setIfInBounds_toArray, List.set_cons_zero, List.set_cons_succ]
      refine wpAnyH_take (S := fun _ => True) (i := 6) (oi := { dst := some 133, op := Go.Op.move (Go.Operand.tmp 11), type := 27, pos := "law.go:90", after := #[{ on := 5, ground := Go.Ground.guard }], guard := some (5, true) }) (v := ?v4) rfl (by kernel_rfl) (by kernel_rfl) (by kernel_rfl) (fun _ _ _ h => h) (Or.inl ⟨by rfl, ?y4⟩) trivial ?r4
      case y4 => (intro w hSw; go_simp; try with_reducible rfl)
      try simp only [Act.put, List.setIfInBounds_toArray, List.set_cons_zero, List.set_cons_succ]
      refine wpAnyH_take (S := fun _ => True) (i := 7) (oi := { dst := some 134, op := Go.Op.move (Go.Operand.tmp 2), type := 9, pos := "law.go:90", after := #[{ on := 5, ground := Go.Ground.guard }], guard := some (5, true) }) (v := ?v5) rfl (by kernel_rfl) (by kernel_rfl) (by kernel_rfl) (fun _ _ _ h => h) (Or.inl ⟨by rfl, ?y5⟩) trivial ?r5
      case y5 => (intro w hSw; go_simp; try with_reducible rfl)
      try simp only [Act.put, List.setIfInBounds_toArray, List.set_cons_zero, List.set_cons_succ]
      refine wpAnyH_take (S := fun _ => True) (i := 10) (oi := { dst := some 137, op := Go.Op.move (Go.Operand.tmp 23), type := 22, pos := "law.go:90", after := #[{ on := 5, ground := Go.Ground.guard }], guard := some (5, true) }) (v := ?v6) rfl (by kernel_rfl) (by kernel_rfl) (by kernel_rfl) (fun _ _ _ h => h) (Or.inl ⟨by rfl, ?y6⟩) trivial ?r6
      case y6 => (intro w hSw; go_simp; try with_reducible rfl)
      try simp only [Act.put, List.setIfInBounds_toArray, List.set_cons_zero, List.set_cons_succ]
      refine wpAnyH_ready (rs := [8]) (by kernel_rfl) (by simp) ?_
      refine AllReadyH.cons (o := { dst := some 135, op := Go.Op.call { callee := Go.Callee.value (Go.Operand.func 21), args := #[Go.Operand.tmp 133, Go.Operand.tmp 134], argTypes := #[27, 9] }, type := 45, pos := "law.go:90", after := #[{ on := 6, ground := Go.Ground.data }, { on := 7, ground := Go.Ground.data }, { on := 5, ground := Go.Ground.chain }, { on := 5, ground := Go.Ground.guard }], guard := some (5, true) }) rfl (fun K hK => ?_) AllReadyH.nil
      go_simp
      (go_at_call 21; refine (from_t T24.out key HK.out).mono ?_; rintro r w25 ⟨bl25, rfl, hc, hb⟩; have C25 := Lib.hid hc; have T25 := Lib.hid (T24.out.bel hb); have U25 := Lib.hid (km_bel U24.out hb); have D25 := Lib.hid (km_bel D24.out hb); clear hc hb)
      refine hK.out _ _ trivial (fun _ => ?_)
      clear hK K
      try simp only [Act.put, List.setIfInBounds_toArray, List.set_cons_zero, List.set_cons_succ]
      refine wpAnyH_ready (rs := [9]) (by kernel_rfl) (by simp) ?_
      refine AllReadyH.cons (o := { dst := some 136, op := Go.Op.call { callee := Go.Callee.value (Go.Operand.func 19), args := #[Go.Operand.tmp 135, Go.Operand.const (Go.Value.int Go.IntKind.i64 200)], argTypes := #[45, 3] }, type := 22, pos := "law.go:90", after := #[{ on := 8, ground := Go.Ground.data }, { on := 8, ground := Go.Ground.chain }, { on := 5, ground := Go.Ground.guard }], guard := some (5, true) }) rfl (fun K hK => ?_) AllReadyH.nil
      go_simp
      (go_at_call 19; refine (row_t T25.out C25.out (.inl ⟨key, rfl, rfl, rfl⟩) (by omega) 200 (by omega) (mi := 200) rfl HU2.out).mono ?_; rintro r w26 ⟨A26, c26, rfl, hr, ht, hM⟩; have R26 := Lib.hid hr; have T26 := Lib.hid ht; have U26 := Lib.hid (km_moved U25.out hM); have D26 := Lib.hid (km_moved D25.out hM); clear hr ht hM)
      refine hK.out _ _ trivial (fun _ => ?_)
      clear hK K
      try simp only [Act.put, List.setIfInBounds_toArray, List.set_cons_zero, List.set_cons_succ]
      refine wpAnyH_ready (rs := [11]) (by kernel_rfl) (by simp) ?_
      refine AllReadyH.cons (o := { dst := some 138, op := Go.Op.call { callee := Go.Callee.value (Go.Operand.func 18), args := #[Go.Operand.tmp 136, Go.Operand.tmp 137], argTypes := #[22, 22] }, type := 4, pos := "law.go:90", after := #[{ on := 9, ground := Go.Ground.data }, { on := 10, ground := Go.Ground.data }, { on := 9, ground := Go.Ground.chain }, { on := 5, ground := Go.Ground.guard }], guard := some (5, true) }) rfl (fun K hK => ?_) AllReadyH.nil
      go_simp
      (go_at_call 18; refine (same_e (km_at R26.out) (km_at U26.out) HUl.out).mono ?_; rintro r w27 ⟨rfl, hb⟩; have T27 := Lib.hid (T26.out.bel hb); have U27 := Lib.hid (km_bel U26.out hb); have D27 := Lib.hid (km_bel D26.out hb); clear hb)
      refine hK.out _ _ trivial (fun _ => ?_)
      clear hK K
      try simp only [Act.put, List.setIfInBounds_toArray, List.set_cons_zero, List.set_cons_succ]
      try clear T24
      try clear U24
      try clear D24
      try clear C25
      try clear T25
      try clear U25
      try clear D25
      try clear R26
      try clear T26
      try clear U26
      try clear D26
      refine wpAnyH_take (S := fun _ => True) (i := 12) (oi := { dst := some 139, op := Go.Op.pick (Go.Operand.tmp 132) (Go.Operand.tmp 138) (Go.Operand.const (Go.Value.bool false)), type := 4, pos := "law.go:90", after := #[{ on := 5, ground := Go.Ground.data }, { on := 11, ground := Go.Ground.data }], guard := none }) (v := ?v7) rfl (by kernel_rfl) (by kernel_rfl) (by kernel_rfl) (fun _ _ _ h => h) (Or.inl ⟨by rfl, ?y7⟩) trivial ?r7
      case y7 => (intro w hSw; go_simp; try with_reducible rfl)
      try simp only [Act.put, List.setIfInBounds_toArray, List.set_cons_zero, List.set_cons_succ]
      refine wpAnyH_take (S := fun _ => True) (i := 13) (oi := { dst := some 140, op := Go.Op.move (Go.Operand.tmp 139), type := 4, pos := "law.go:90", after := #[{ on := 12, ground := Go.Ground.data }, { on := 11, ground := Go.Ground.chain }], guard := none }) (v := ?v8) rfl (by kernel_rfl) (by kernel_rfl) (by kernel_rfl) (fun _ _ _ h => h) (Or.inl ⟨by rfl, ?y8⟩) trivial ?r8
      case y8 => (intro w hSw; go_simp; try with_reducible rfl)
      try simp only [Act.put, List.setIfInBounds_toArray, List.set_cons_zero, List.set_cons_succ]
      refine wpAnyH_take (S := fun _ => True) (i := 14) (oi := { dst := some 141, op := Go.Op.move (Go.Operand.tmp 11), type := 27, pos := "law.go:90", after := #[{ on := 13, ground := Go.Ground.guard }], guard := some (13, true) }) (v := ?v9) rfl (by kernel_rfl) (by kernel_rfl) (by kernel_rfl) (fun _ _ _ h => h) (Or.inl ⟨by rfl, ?y9⟩) trivial ?r9
      case y9 => (intro w hSw; go_simp; try with_reducible rfl)
      try simp only [Act.put, List.setIfInBounds_toArray, List.set_cons_zero, List.set_cons_succ]
      refine wpAnyH_take (S := fun _ => True) (i := 15) (oi := { dst := some 142, op := Go.Op.move (Go.Operand.tmp 2), type := 9, pos := "law.go:90", after := #[{ on := 13, ground := Go.Ground.guard }], guard := some (13, true) }) (v := ?v10) rfl (by kernel_rfl) (by kernel_rfl) (by kernel_rfl) (fun _ _ _ h => h) (Or.inl ⟨by rfl, ?y10⟩) trivial ?r10
      case y10 => (intro w hSw; go_simp; try with_reducible rfl)
      try simp only [Act.put, List.setIfInBounds_toArray, List.set_cons_zero, List.set_cons_succ]
      refine wpAnyH_take (S := fun _ => True) (i := 18) (oi := { dst := some 145, op := Go.Op.move (Go.Operand.tmp 24), type := 22, pos := "law.go:90", after := #[{ on := 13, ground := Go.Ground.guard }], guard := some (13, true) }) (v := ?v11) rfl (by kernel_rfl) (by kernel_rfl) (by kernel_rfl) (fun _ _ _ h => h) (Or.inl ⟨by rfl, ?y11⟩) trivial ?r11
      case y11 => (intro w hSw; go_simp; try with_reducible rfl)
      try simp only [Act.put, List.setIfInBounds_toArray, List.set_cons_zero, List.set_cons_succ]
      refine wpAnyH_ready (rs := [16]) (by kernel_rfl) (by simp) ?_
      refine AllReadyH.cons (o := { dst := some 143, op := Go.Op.call { callee := Go.Callee.value (Go.Operand.func 22), args := #[Go.Operand.tmp 141, Go.Operand.tmp 142], argTypes := #[27, 9] }, type := 45, pos := "law.go:90", after := #[{ on := 14, ground := Go.Ground.data }, { on := 15, ground := Go.Ground.data }, { on := 13, ground := Go.Ground.chain }, { on := 13, ground := Go.Ground.guard }], guard := some (13, true) }) rfl (fun K hK => ?_) AllReadyH.nil
      go_simp
      (go_at_call 22; refine (down_t T27.out key HK.out).mono ?_; rintro r w28 ⟨bl28, rfl, hc, hb⟩; have C28 := Lib.hid hc; have T28 := Lib.hid (T27.out.bel hb); have U28 := Lib.hid (km_bel U27.out hb); have D28 := Lib.hid (km_bel D27.out hb); clear hc hb)
      refine hK.out _ _ trivial (fun _ => ?_)
      clear hK K
      try simp only [Act.put, List.setIfInBounds_toArray, List.set_cons_zero, List.set_cons_succ]
      refine wpAnyH_ready (rs := [17]) (by kernel_rfl) (by simp) ?_
      refine AllReadyH.cons (o := { dst := some 144, op := Go.Op.call { callee := Go.Callee.value (Go.Operand.func 19), args := #[Go.Operand.tmp 143, Go.Operand.const (Go.Value.int Go.IntKind.i64 200)], argTypes := #[45, 3] }, type := 22, pos := "law.go:90", after := #[{ on := 16, ground := Go.Ground.data }, { on := 16, ground := Go.Ground.chain }, { on := 13, ground := Go.Ground.guard }], guard := some (13, true) }) rfl (fun K hK => ?_) AllReadyH.nil
      go_simp
      (go_at_call 19; refine (row_t T28.out C28.out (.inr ⟨key, rfl, rfl, rfl⟩) (by omega) 200 (by omega) (mi := 200) rfl HD2.out).mono ?_; rintro r w29 ⟨A29, c29, rfl, hr, ht, hM⟩; have R29 := Lib.hid hr; have T29 := Lib.hid ht; have U29 := Lib.hid (km_moved U28.out hM); have D29 := Lib.hid (km_moved D28.out hM); clear hr ht hM)
      refine hK.out _ _ trivial (fun _ => ?_)
      clear hK K
      try simp only [Act.put, List.setIfInBounds_toArray, List.set_cons_zero, List.set_cons_succ]
      refine wpAnyH_ready (rs := [19]) (by kernel_rfl) (by simp) ?_
      refine AllReadyH.cons (o := { dst := some 146, op := Go.Op.call { callee := Go.Callee.value (Go.Operand.func 18), args := #[Go.Operand.tmp 144, Go.Operand.tmp 145], argTypes := #[22, 22] }, type := 4, pos := "law.go:90", after := #[{ on := 17, ground := Go.Ground.data }, { on := 18, ground := Go.Ground.data }, { on := 17, ground := Go.Ground.chain }, { on := 13, ground := Go.Ground.guard }], guard := some (13, true) }) rfl (fun K hK => ?_) AllReadyH.nil
      go_simp
      (go_at_call 18; refine (same_e (km_at R29.out) (km_at D29.out) HDl.out).mono ?_; rintro r w30 ⟨rfl, hb⟩; have T30 := Lib.hid (T29.out.bel hb); have U30 := Lib.hid (km_bel U29.out hb); have D30 := Lib.hid (km_bel D29.out hb); clear hb)
      refine hK.out _ _ trivial (fun _ => ?_)
      clear hK K
      try simp only [Act.put, List.setIfInBounds_toArray, List.set_cons_zero, List.set_cons_succ]
      try clear T27
      try clear U27
      try clear D27
      try clear C28
      try clear T28
      try clear U28
      try clear D28
      try clear R29
      try clear T29
      try clear U29
      try clear D29
      refine wpAnyH_take (S := fun _ => True) (i := 20) (oi := { dst := some 147, op := Go.Op.pick (Go.Operand.tmp 140) (Go.Operand.tmp 146) (Go.Operand.const (Go.Value.bool false)), type := 4, pos := "law.go:90", after := #[{ on := 13, ground := Go.Ground.data }, { on := 19, ground := Go.Ground.data }], guard := none }) (v := ?v12) rfl (by kernel_rfl) (by kernel_rfl) (by kernel_rfl) (fun _ _ _ h => h) (Or.inl ⟨by rfl, ?y12⟩) trivial ?r12
      case y12 => (intro w hSw; go_simp; try with_reducible rfl)
      try simp only [Act.put, List.setIfInBounds_toArray, List.set_cons_zero, List.set_cons_succ]
      refine wpAnyH_take (S := fun _ => True) (i := 21) (oi := { dst := some 148, op := Go.Op.move (Go.Operand.tmp 147), type := 4, pos := "law.go:90", after := #[{ on := 20, ground := Go.Ground.data }, { on := 19, ground := Go.Ground.chain }], guard := none }) (v := ?v13) rfl (by kernel_rfl) (by kernel_rfl) (by kernel_rfl) (fun _ _ _ h => h) (Or.inl ⟨by rfl, ?y13⟩) trivial ?r13
      case y13 => (intro w hSw; go_simp; try with_reducible rfl)
      try simp only [Act.put, List.setIfInBounds_toArray, List.set_cons_zero, List.set_cons_succ]
      refine wpAnyH_take (S := fun _ => True) (i := 22) (oi := { dst := some 149, op := Go.Op.move (Go.Operand.tmp 11), type := 27, pos := "law.go:90", after := #[{ on := 21, ground := Go.Ground.guard }], guard := some (21, true) }) (v := ?v14) rfl (by kernel_rfl) (by kernel_rfl) (by kernel_rfl) (fun _ _ _ h => h) (Or.inl ⟨by rfl, ?y14⟩) trivial ?r14
      case y14 => (intro w hSw; go_simp; try with_reducible rfl)
      try simp only [Act.put, List.setIfInBounds_toArray, List.set_cons_zero, List.set_cons_succ]
      refine wpAnyH_take (S := fun _ => True) (i := 23) (oi := { dst := some 150, op := Go.Op.move (Go.Operand.tmp 2), type := 9, pos := "law.go:90", after := #[{ on := 21, ground := Go.Ground.guard }], guard := some (21, true) }) (v := ?v15) rfl (by kernel_rfl) (by kernel_rfl) (by kernel_rfl) (fun _ _ _ h => h) (Or.inl ⟨by rfl, ?y15⟩) trivial ?r15
      case y15 => (intro w hSw; go_simp; try with_reducible rfl)
      try simp only [Act.put, List.setIfInBounds_toArray, List.set_cons_zero, List.set_cons_succ]
      refine wpAnyH_take (S := fun _ => True) (i := 25) (oi := { dst := some 152, op := Go.Op.move (Go.Operand.tmp 22), type := 3, pos := "law.go:90", after := #[{ on := 21, ground := Go.Ground.guard }], guard := some (21, true) }) (v := ?v16) rfl (by kernel_rfl) (by kernel_rfl) (by kernel_rfl) (fun _ _ _ h => h) (Or.inl ⟨by rfl, ?y16⟩) trivial ?r16
      case y16 => (intro w hSw; go_simp; try with_reducible rfl)
      try simp only [Act.put, List.setIfInBounds_toArray, List.set_cons_zero, List.set_cons_succ]
      refine wpAnyH_take (S := fun _ => True) (i := 27) (oi := { dst := some 154, op := Go.Op.move (Go.Operand.tmp 23), type := 22, pos := "law.go:90", after := #[{ on := 21, ground := Go.Ground.guard }], guard := some (21, true) }) (v := ?v17) rfl (by kernel_rfl) (by kernel_rfl) (by kernel_rfl) (fun _ _ _ h => h) (Or.inl ⟨by rfl, ?y17⟩) trivial ?r17
      case y17 => (intro w hSw; go_simp; try with_reducible rfl)
      try simp only [Act.put, List.setIfInBounds_toArray, List.set_cons_zero, List.set_cons_succ]
      refine wpAnyH_take (S := fun _ => True) (i := 28) (oi := { dst := some 155, op := Go.Op.move (Go.Operand.tmp 22), type := 3, pos := "law.go:90", after := #[{ on := 21, ground := Go.Ground.guard }], guard := some (21, true) }) (v := ?v18) rfl (by kernel_rfl) (by kernel_rfl) (by kernel_rfl) (fun _ _ _ h => h) (Or.inl ⟨by rfl, ?y18⟩) trivial ?r18
      case y18 => (intro w hSw; go_simp; try with_reducible rfl)
      try simp only [Act.put, List.setIfInBounds_toArray, List.set_cons_zero, List.set_cons_succ]
      refine wpAnyH_take (S := fun _ => True) (i := 29) (oi := { dst := some 156, op := Go.Op.move (Go.Operand.tmp 23), type := 22, pos := "law.go:90", after := #[{ on := 21, ground := Go.Ground.guard }], guard := some (21, true) }) (v := ?v19) rfl (by kernel_rfl) (by kernel_rfl) (by kernel_rfl) (fun _ _ _ h => h) (Or.inl ⟨by rfl, ?y19⟩) trivial ?r19
      case y19 => (intro w hSw; go_simp; try with_reducible rfl)
      try simp only [Act.put, List.setIfInBounds_toArray, List.set_cons_zero, List.set_cons_succ]
      refine wpAnyH_take (S := fun _ => True) (i := 30) (oi := { dst := some 157, op := Go.Op.call { callee := Go.Callee.builtin Go.Builtin.len, args := #[Go.Operand.tmp 156], argTypes := #[22] }, type := 3, pos := "law.go:90", after := #[{ on := 29, ground := Go.Ground.data }, { on := 21, ground := Go.Ground.guard }], guard := some (21, true) }) (v := ?v20) rfl (by kernel_rfl) (by kernel_rfl) (by kernel_rfl) (fun _ _ _ h => h) (Or.inl ⟨by rfl, ?y20⟩) trivial ?r20
      case y20 => (intro w hSw; go_simp; try with_reducible rfl)
      try simp only [Act.put, List.setIfInBounds_toArray, List.set_cons_zero, List.set_cons_succ]
      refine wpAnyH_take (S := fun _ => True) (i := 31) (oi := { dst := some 158, op := Go.Op.call { callee := Go.Callee.builtin Go.Builtin.min, args := #[Go.Operand.tmp 155, Go.Operand.tmp 157], argTypes := #[3, 3] }, type := 3, pos := "law.go:90", after := #[{ on := 28, ground := Go.Ground.data }, { on := 30, ground := Go.Ground.data }, { on := 21, ground := Go.Ground.guard }], guard := some (21, true) }) (v := ?v21) rfl (by kernel_rfl) (by kernel_rfl) (by kernel_rfl) (fun _ _ _ h => h) (Or.inl ⟨by rfl, ?y21⟩) trivial ?r21
      case y21 => (intro w hSw; go_simp; try with_reducible rfl)
      try simp only [Act.put, List.setIfInBounds_toArray, List.set_cons_zero, List.set_cons_succ]
      refine wpAnyH_take (S := fun _ => True) (i := 32) (oi := { dst := some 159, op := Go.Op.slice 22 (Go.Operand.tmp 154) none (some (Go.Operand.tmp 158)) none, type := 22, pos := "law.go:90", after := #[{ on := 27, ground := Go.Ground.data }, { on := 31, ground := Go.Ground.data }, { on := 21, ground := Go.Ground.guard }], guard := some (21, true) }) (v := ?v22) rfl (by kernel_rfl) (by kernel_rfl) (by kernel_rfl) (fun _ _ _ h => h) (Or.inl ⟨by rfl, ?y22⟩) trivial ?r22
      case y22 => (intro w hSw; go_simp; try with_reducible rfl)
      try simp only [Act.put, List.setIfInBounds_toArray, List.set_cons_zero, List.set_cons_succ]
      refine wpAnyH_ready (rs := [24]) (by kernel_rfl) (by simp) ?_
      refine AllReadyH.cons (o := { dst := some 151, op := Go.Op.call { callee := Go.Callee.value (Go.Operand.func 21), args := #[Go.Operand.tmp 149, Go.Operand.tmp 150], argTypes := #[27, 9] }, type := 45, pos := "law.go:90", after := #[{ on := 22, ground := Go.Ground.data }, { on := 23, ground := Go.Ground.data }, { on := 21, ground := Go.Ground.chain }, { on := 21, ground := Go.Ground.guard }], guard := some (21, true) }) rfl (fun K hK => ?_) AllReadyH.nil
      go_simp
      (go_at_call 21; refine (from_t T30.out key HK.out).mono ?_; rintro r w31 ⟨bl31, rfl, hc, hb⟩; have C31 := Lib.hid hc; have T31 := Lib.hid (T30.out.bel hb); have U31 := Lib.hid (km_bel U30.out hb); have D31 := Lib.hid (km_bel D30.out hb); clear hc hb)
      refine hK.out _ _ trivial (fun _ => ?_)
      clear hK K
      try simp only [Act.put, List.setIfInBounds_toArray, List.set_cons_zero, List.set_cons_succ]
      refine wpAnyH_ready (rs := [26]) (by kernel_rfl) (by simp) ?_
      refine AllReadyH.cons (o := { dst := some 153, op := Go.Op.call { callee := Go.Callee.value (Go.Operand.func 19), args := #[Go.Operand.tmp 151, Go.Operand.tmp 152], argTypes := #[45, 3] }, type := 22, pos := "law.go:90", after := #[{ on := 24, ground := Go.Ground.data }, { on := 25, ground := Go.Ground.data }, { on := 24, ground := Go.Ground.chain }, { on := 21, ground := Go.Ground.guard }], guard := some (21, true) }) rfl (fun K hK => ?_) AllReadyH.nil
      go_simp
      (go_at_call 19; refine (row_t T31.out C31.out (.inl ⟨key, rfl, rfl, rfl⟩) (by omega) mt (by omega) (mi := mt) rfl HUm.out).mono ?_; rintro r w32 ⟨A32, c32, rfl, hr, ht, hM⟩; have R32 := Lib.hid hr; have T32 := Lib.hid ht; have U32 := Lib.hid (km_moved U31.out hM); have D32 := Lib.hid (km_moved D31.out hM); clear hr ht hM)
      refine hK.out _ _ trivial (fun _ => ?_)
      clear hK K
      try simp only [Act.put, List.setIfInBounds_toArray, List.set_cons_zero, List.set_cons_succ]
      refine wpAnyH_ready (rs := [33]) (by kernel_rfl) (by simp) ?_
      refine AllReadyH.cons (o := { dst := some 160, op := Go.Op.call { callee := Go.Callee.value (Go.Operand.func 18), args := #[Go.Operand.tmp 153, Go.Operand.tmp 159], argTypes := #[22, 22] }, type := 4, pos := "law.go:90", after := #[{ on := 26, ground := Go.Ground.data }, { on := 32, ground := Go.Ground.data }, { on := 26, ground := Go.Ground.chain }, { on := 21, ground := Go.Ground.guard }], guard := some (21, true) }) rfl (fun K hK => ?_) AllReadyH.nil
      go_simp
      (go_at_call 18; refine (same_e (km_at R32.out) (cutU (km_at U32.out) (by omega)) HUk.out).mono ?_; rintro r w33 ⟨rfl, hb⟩; have T33 := Lib.hid (T32.out.bel hb); have U33 := Lib.hid (km_bel U32.out hb); have D33 := Lib.hid (km_bel D32.out hb); clear hb)
      refine hK.out _ _ trivial (fun _ => ?_)
      clear hK K
      try simp only [Act.put, List.setIfInBounds_toArray, List.set_cons_zero, List.set_cons_succ]
      try clear T30
      try clear U30
      try clear D30
      try clear C31
      try clear T31
      try clear U31
      try clear D31
      try clear R32
      try clear T32
      try clear U32
      try clear D32
      refine wpAnyH_take (S := fun _ => True) (i := 34) (oi := { dst := some 161, op := Go.Op.pick (Go.Operand.tmp 148) (Go.Operand.tmp 160) (Go.Operand.const (Go.Value.bool false)), type := 4, pos := "law.go:90", after := #[{ on := 21, ground := Go.Ground.data }, { on := 33, ground := Go.Ground.data }], guard := none }) (v := ?v23) rfl (by kernel_rfl) (by kernel_rfl) (by kernel_rfl) (fun _ _ _ h => h) (Or.inl ⟨by rfl, ?y23⟩) trivial ?r23
      case y23 => (intro w hSw; go_simp; try with_reducible rfl)
      try simp only [Act.put, List.setIfInBounds_toArray, List.set_cons_zero, List.set_cons_succ]
      refine wpAnyH_take (S := fun _ => True) (i := 35) (oi := { dst := some 162, op := Go.Op.move (Go.Operand.tmp 161), type := 4, pos := "law.go:90", after := #[{ on := 34, ground := Go.Ground.data }, { on := 33, ground := Go.Ground.chain }], guard := none }) (v := ?v24) rfl (by kernel_rfl) (by kernel_rfl) (by kernel_rfl) (fun _ _ _ h => h) (Or.inl ⟨by rfl, ?y24⟩) trivial ?r24
      case y24 => (intro w hSw; go_simp; try with_reducible rfl)
      try simp only [Act.put, List.setIfInBounds_toArray, List.set_cons_zero, List.set_cons_succ]
      refine wpAnyH_take (S := fun _ => True) (i := 36) (oi := { dst := some 163, op := Go.Op.move (Go.Operand.tmp 11), type := 27, pos := "law.go:90", after := #[{ on := 35, ground := Go.Ground.guard }], guard := some (35, true) }) (v := ?v25) rfl (by kernel_rfl) (by kernel_rfl) (by kernel_rfl) (fun _ _ _ h => h) (Or.inl ⟨by rfl, ?y25⟩) trivial ?r25
      case y25 => (intro w hSw; go_simp; try with_reducible rfl)
      try simp only [Act.put, List.setIfInBounds_toArray, List.set_cons_zero, List.set_cons_succ]
      refine wpAnyH_take (S := fun _ => True) (i := 37) (oi := { dst := some 164, op := Go.Op.move (Go.Operand.tmp 2), type := 9, pos := "law.go:90", after := #[{ on := 35, ground := Go.Ground.guard }], guard := some (35, true) }) (v := ?v26) rfl (by kernel_rfl) (by kernel_rfl) (by kernel_rfl) (fun _ _ _ h => h) (Or.inl ⟨by rfl, ?y26⟩) trivial ?r26
      case y26 => (intro w hSw; go_simp; try with_reducible rfl)
      try simp only [Act.put, List.setIfInBounds_toArray, List.set_cons_zero, List.set_cons_succ]
      refine wpAnyH_take (S := fun _ => True) (i := 39) (oi := { dst := some 166, op := Go.Op.move (Go.Operand.tmp 22), type := 3, pos := "law.go:90", after := #[{ on := 35, ground := Go.Ground.guard }], guard := some (35, true) }) (v := ?v27) rfl (by kernel_rfl) (by kernel_rfl) (by kernel_rfl) (fun _ _ _ h => h) (Or.inl ⟨by rfl, ?y27⟩) trivial ?r27
      case y27 => (intro w hSw; go_simp; try with_reducible rfl)
      try simp only [Act.put, List.setIfInBounds_toArray, List.set_cons_zero, List.set_cons_succ]
      refine wpAnyH_take (S := fun _ => True) (i := 41) (oi := { dst := some 168, op := Go.Op.move (Go.Operand.tmp 24), type := 22, pos := "law.go:90", after := #[{ on := 35, ground := Go.Ground.guard }], guard := some (35, true) }) (v := ?v28) rfl (by kernel_rfl) (by kernel_rfl) (by kernel_rfl) (fun _ _ _ h => h) (Or.inl ⟨by rfl, ?y28⟩) trivial ?r28
      case y28 => (intro w hSw; go_simp; try with_reducible rfl)
      try simp only [Act.put, List.setIfInBounds_toArray, List.set_cons_zero, List.set_cons_succ]
      refine wpAnyH_take (S := fun _ => True) (i := 42) (oi := { dst := some 169, op := Go.Op.move (Go.Operand.tmp 22), type := 3, pos := "law.go:90", after := #[{ on := 35, ground := Go.Ground.guard }], guard := some (35, true) }) (v := ?v29) rfl (by kernel_rfl) (by kernel_rfl) (by kernel_rfl) (fun _ _ _ h => h) (Or.inl ⟨by rfl, ?y29⟩) trivial ?r29
      case y29 => (intro w hSw; go_simp; try with_reducible rfl)
      try simp only [Act.put, List.setIfInBounds_toArray, List.set_cons_zero, List.set_cons_succ]
      refine wpAnyH_take (S := fun _ => True) (i := 43) (oi := { dst := some 170, op := Go.Op.move (Go.Operand.tmp 24), type := 22, pos := "law.go:90", after := #[{ on := 35, ground := Go.Ground.guard }], guard := some (35, true) }) (v := ?v30) rfl (by kernel_rfl) (by kernel_rfl) (by kernel_rfl) (fun _ _ _ h => h) (Or.inl ⟨by rfl, ?y30⟩) trivial ?r30
      case y30 => (intro w hSw; go_simp; try with_reducible rfl)
      try simp only [Act.put, List.setIfInBounds_toArray, List.set_cons_zero, List.set_cons_succ]
      refine wpAnyH_take (S := fun _ => True) (i := 44) (oi := { dst := some 171, op := Go.Op.call { callee := Go.Callee.builtin Go.Builtin.len, args := #[Go.Operand.tmp 170], argTypes := #[22] }, type := 3, pos := "law.go:90", after := #[{ on := 43, ground := Go.Ground.data }, { on := 35, ground := Go.Ground.guard }], guard := some (35, true) }) (v := ?v31) rfl (by kernel_rfl) (by kernel_rfl) (by kernel_rfl) (fun _ _ _ h => h) (Or.inl ⟨by rfl, ?y31⟩) trivial ?r31
      case y31 => (intro w hSw; go_simp; try with_reducible rfl)
      try simp only [Act.put, List.setIfInBounds_toArray, List.set_cons_zero, List.set_cons_succ]
      refine wpAnyH_take (S := fun _ => True) (i := 45) (oi := { dst := some 172, op := Go.Op.call { callee := Go.Callee.builtin Go.Builtin.min, args := #[Go.Operand.tmp 169, Go.Operand.tmp 171], argTypes := #[3, 3] }, type := 3, pos := "law.go:90", after := #[{ on := 42, ground := Go.Ground.data }, { on := 44, ground := Go.Ground.data }, { on := 35, ground := Go.Ground.guard }], guard := some (35, true) }) (v := ?v32) rfl (by kernel_rfl) (by kernel_rfl) (by kernel_rfl) (fun _ _ _ h => h) (Or.inl ⟨by rfl, ?y32⟩) trivial ?r32
      case y32 => (intro w hSw; go_simp; try with_reducible rfl)
      try simp only [Act.put, List.setIfInBounds_toArray, List.set_cons_zero, List.set_cons_succ]
      refine wpAnyH_take (S := fun _ => True) (i := 46) (oi := { dst := some 173, op := Go.Op.slice 22 (Go.Operand.tmp 168) none (some (Go.Operand.tmp 172)) none, type := 22, pos := "law.go:90", after := #[{ on := 41, ground := Go.Ground.data }, { on := 45, ground := Go.Ground.data }, { on := 35, ground := Go.Ground.guard }], guard := some (35, true) }) (v := ?v33) rfl (by kernel_rfl) (by kernel_rfl) (by kernel_rfl) (fun _ _ _ h => h) (Or.inl ⟨by rfl, ?y33⟩) trivial ?r33
      case y33 => (intro w hSw; go_simp; try with_reducible rfl)
      try simp only [Act.put, List.setIfInBounds_toArray, List.set_cons_zero, List.set_cons_succ]
      refine wpAnyH_ready (rs := [38]) (by kernel_rfl) (by simp) ?_
      refine AllReadyH.cons (o := { dst := some 165, op := Go.Op.call { callee := Go.Callee.value (Go.Operand.func 22), args := #[Go.Operand.tmp 163, Go.Operand.tmp 164], argTypes := #[27, 9] }, type := 45, pos := "law.go:90", after := #[{ on := 36, ground := Go.Ground.data }, { on := 37, ground := Go.Ground.data }, { on := 35, ground := Go.Ground.chain }, { on := 35, ground := Go.Ground.guard }], guard := some (35, true) }) rfl (fun K hK => ?_) AllReadyH.nil
      go_simp
      (go_at_call 22; refine (down_t T33.out key HK.out).mono ?_; rintro r w34 ⟨bl34, rfl, hc, hb⟩; have C34 := Lib.hid hc; have T34 := Lib.hid (T33.out.bel hb); have U34 := Lib.hid (km_bel U33.out hb); have D34 := Lib.hid (km_bel D33.out hb); clear hc hb)
      refine hK.out _ _ trivial (fun _ => ?_)
      clear hK K
      try simp only [Act.put, List.setIfInBounds_toArray, List.set_cons_zero, List.set_cons_succ]
      refine wpAnyH_ready (rs := [40]) (by kernel_rfl) (by simp) ?_
      refine AllReadyH.cons (o := { dst := some 167, op := Go.Op.call { callee := Go.Callee.value (Go.Operand.func 19), args := #[Go.Operand.tmp 165, Go.Operand.tmp 166], argTypes := #[45, 3] }, type := 22, pos := "law.go:90", after := #[{ on := 38, ground := Go.Ground.data }, { on := 39, ground := Go.Ground.data }, { on := 38, ground := Go.Ground.chain }, { on := 35, ground := Go.Ground.guard }], guard := some (35, true) }) rfl (fun K hK => ?_) AllReadyH.nil
      go_simp
      (go_at_call 19; refine (row_t T34.out C34.out (.inr ⟨key, rfl, rfl, rfl⟩) (by omega) mt (by omega) (mi := mt) rfl HDm.out).mono ?_; rintro r w35 ⟨A35, c35, rfl, hr, ht, hM⟩; have R35 := Lib.hid hr; have T35 := Lib.hid ht; have U35 := Lib.hid (km_moved U34.out hM); have D35 := Lib.hid (km_moved D34.out hM); clear hr ht hM)
      refine hK.out _ _ trivial (fun _ => ?_)
      clear hK K
      try simp only [Act.put, List.setIfInBounds_toArray, List.set_cons_zero, List.set_cons_succ]
      refine wpAnyH_ready (rs := [47]) (by kernel_rfl) (by simp) ?_
      refine AllReadyH.cons (o := { dst := some 174, op := Go.Op.call { callee := Go.Callee.value (Go.Operand.func 18), args := #[Go.Operand.tmp 167, Go.Operand.tmp 173], argTypes := #[22, 22] }, type := 4, pos := "law.go:90", after := #[{ on := 40, ground := Go.Ground.data }, { on := 46, ground := Go.Ground.data }, { on := 40, ground := Go.Ground.chain }, { on := 35, ground := Go.Ground.guard }], guard := some (35, true) }) rfl (fun K hK => ?_) AllReadyH.nil
      go_simp
      (go_at_call 18; refine (same_e (km_at R35.out) (cutD (km_at D35.out) (by omega)) HDk.out).mono ?_; rintro r w36 ⟨rfl, hb⟩; have T36 := Lib.hid (T35.out.bel hb); have U36 := Lib.hid (km_bel U35.out hb); have D36 := Lib.hid (km_bel D35.out hb); clear hb)
      refine hK.out _ _ trivial (fun _ => ?_)
      clear hK K
      try simp only [Act.put, List.setIfInBounds_toArray, List.set_cons_zero, List.set_cons_succ]
      refine wpAnyH_take (S := fun _ => True) (i := 48) (oi := { dst := some 175, op := Go.Op.pick (Go.Operand.tmp 162) (Go.Operand.tmp 174) (Go.Operand.const (Go.Value.bool false)), type := 4, pos := "law.go:90", after := #[{ on := 35, ground := Go.Ground.data }, { on := 47, ground := Go.Ground.data }], guard := none }) (v := ?v34) rfl (by kernel_rfl) (by kernel_rfl) (by kernel_rfl) (fun _ _ _ h => h) (Or.inl ⟨by rfl, ?y34⟩) trivial ?r34
      case y34 => (intro w hSw; go_simp; try with_reducible rfl)
      try simp only [Act.put, List.setIfInBounds_toArray, List.set_cons_zero, List.set_cons_succ]
      refine wpAnyH_take (S := fun _ => True) (i := 49) (oi := { dst := some 10, op := Go.Op.assign (Go.Operand.tmp 175), type := 4, pos := "law.go:90", after := #[{ on := 48, ground := Go.Ground.data }, { on := 47, ground := Go.Ground.chain }, { on := 0, ground := Go.Ground.phase }, { on := 1, ground := Go.Ground.phase }, { on := 2, ground := Go.Ground.phase }, { on := 3, ground := Go.Ground.phase }, { on := 4, ground := Go.Ground.phase }, { on := 5, ground := Go.Ground.phase }, { on := 6, ground := Go.Ground.phase }, { on := 7, ground := Go.Ground.phase }, { on := 8, ground := Go.Ground.phase }, { on := 9, ground := Go.Ground.phase }, { on := 10, ground := Go.Ground.phase }, { on := 11, ground := Go.Ground.phase }, { on := 12, ground := Go.Ground.phase }, { on := 13, ground := Go.Ground.phase }, { on := 14, ground := Go.Ground.phase }, { on := 15, ground := Go.Ground.phase }, { on := 16, ground := Go.Ground.phase }, { on := 17, ground := Go.Ground.phase }, { on := 18, ground := Go.Ground.phase }, { on := 19, ground := Go.Ground.phase }, { on := 20, ground := Go.Ground.phase }, { on := 21, ground := Go.Ground.phase }, { on := 22, ground := Go.Ground.phase }, { on := 23, ground := Go.Ground.phase }, { on := 24, ground := Go.Ground.phase }, { on := 25, ground := Go.Ground.phase }, { on := 26, ground := Go.Ground.phase }, { on := 27, ground := Go.Ground.phase }, { on := 28, ground := Go.Ground.phase }, { on := 29, ground := Go.Ground.phase }, { on := 30, ground := Go.Ground.phase }, { on := 31, ground := Go.Ground.phase }, { on := 32, ground := Go.Ground.phase }, { on := 33, ground := Go.Ground.phase }, { on := 34, ground := Go.Ground.phase }, { on := 35, ground := Go.Ground.phase }, { on := 36, ground := Go.Ground.phase }, { on := 37, ground := Go.Ground.phase }, { on := 38, ground := Go.Ground.phase }, { on := 39, ground := Go.Ground.phase }, { on := 40, ground := Go.Ground.phase }, { on := 41, ground := Go.Ground.phase }, { on := 42, ground := Go.Ground.phase }, { on := 43, ground := Go.Ground.phase }, { on := 44, ground := Go.Ground.phase }, { on := 45, ground := Go.Ground.phase }, { on := 46, ground := Go.Ground.phase }, { on := 47, ground := Go.Ground.phase }, { on := 48, ground := Go.Ground.phase }], guard := none }) (v := ?v35) rfl (by kernel_rfl) (by kernel_rfl) (by kernel_rfl) (fun _ _ _ h => h) (Or.inl ⟨by rfl, ?y35⟩) trivial ?r35
      case y35 => (intro w hSw; go_simp; try with_reducible rfl)
      try simp only [Act.put, List.setIfInBounds_toArray, List.set_cons_zero, List.set_cons_succ]
      refine wpAnyH_done (by kernel_rfl) ?_ _
      refine NoPanic.normal ?_
      go_wp2
      go_ret
      exact ⟨rfl, T36.out.below⟩
end Go.Proofs.YtadejeoiffaimaaGreatDoor.Me
