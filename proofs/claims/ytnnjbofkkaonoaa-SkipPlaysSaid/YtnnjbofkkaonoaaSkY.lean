/-
  The law SkipPlays walked. Conditions: as each theorem states.
-/
import Derived.Test.YtnnjbofkkaonoaaSkX
import Derived.Deep.RegionHeldLaw
import Derived.Deep.RegionHeld3
namespace Go.Proofs.Ytnnjbofkkaonoaa.Sk
open Go.RowKit Go.Shelf

theorem newH_any (w : World) : Calls Try.prog 6 #[] w fun e w' => e = .returned (.pointer (some ⟨w.heap.size, 0, none⟩)) ∧ LstH w' w.heap.size (.slice none 0 0) [] 0 0 (fun _ => 0) ∧ Below w.heap.size w w' := by
  go_enter Try.func6, Try.ntmps6
  go_wp2
  go_ret
  refine ⟨rfl, ⟨noLs, 0, ⟨?_, ⟨rfl, .inl ⟨rfl, rfl⟩⟩, noLs_ok, by decide, by simp [Value.ownBlock], (by intro p hp; cases hp), rfl⟩, rfl, rfl, fun k => rfl⟩, (Below.refl _ w).alloc (Nat.le_refl _) _⟩
  exact heap_alloc_new w _
theorem al2 {w W : World} {o o' : Obj} (h : Hid (W = (w.alloc o).alloc o')) : Below w.heap.size w W := by
  rw [h.out]; exact ((Below.refl _ _).alloc (Nat.le_refl _) _).alloc (by simp) _
theorem kr_at {W : World} {l : Nat} {v rv : Value} {q : List Pr} (h : KR W l v rv q) : PrAt W rv q := h.1
theorem prat_cap {W : World} {A : Option Addr} {n c : Nat} {q : List Pr} (h : PrAt W (.slice A n c) q) : q.length ≤ c := by
  obtain ⟨A', c', e, hc, _⟩ := h
  injection e with _ _ e
  omega
def PlRel (w : World) (l m : Nat) (L : List Ac) (qv i : Value) (wr : World) : Prop :=
  ∃ (j n mn : Nat) (v : Value) (P : List Pr) (st : Int) (hg : ByteArray → Nat) (mp : ByteArray → Option Nat), j ≤ L.length ∧ i = .int .i64 j ∧ n ≤ j ∧ mn ≤ j ∧ PS w l m v P n st hg mn mp qv P wr ∧ Agree P hg mp ∧ Srt P ∧ ∀ x ∈ P, x.1.size ≤ 300 ∧ x.2.size ≤ 300
theorem ps_start {w w2 w3 : World} (hb2 : Below w.heap.size w w2) (h3 : LstH w3 w2.heap.size (.slice none 0 0) [] 0 0 (fun _ => 0)) (b3 : Below w2.heap.size w2 w3) :
    PS w w2.heap.size w3.heap.size (.slice none 0 0) [] 0 0 (fun _ => 0) 0 (fun _ => none) (.slice none 0 0) [] (w3.alloc (.map #[] 0)) := by
  have hl := h3.lt w2.heap.size (by simp [feet])
  have s2 := hb2.size
  have hb : Below w3.heap.size w3 (w3.alloc (.map #[] 0)) := (Below.refl _ w3).alloc (Nat.le_refl _) _
  refine ⟨h3.below hb, hmap_new w3, ⟨none, 0, rfl, by simp, fun h => by simp at h⟩, fun hk => ?_, fun g hg => by simp [Value.ownBlock] at hg, fun k hk => ?_, by omega, (hb2.trans (b3.mono s2)).trans (hb.mono (by omega))⟩
  · simp [feet, Value.ownBlock] at hk; omega
  · simp [feet, Value.ownBlock] at hk; omega
theorem box_cells3 {W : World} {g : Nat} {x y z : Value} {t : TypeId} (h : W.heap[g]? = some (.cells #[x, y, z] t (0, 0))) : W.cell? ⟨g, 0, none⟩ = some x ∧ W.cell? ⟨g, 1, none⟩ = some y ∧ W.cell? ⟨g, 2, none⟩ = some z := ⟨cell_in h 0 _ rfl, cell_in h 1 _ rfl, cell_in h 2 _ rfl⟩
theorem own_low {W W' : World} {B : Nat} {qv : Value} {Q : List Pr} (h : W'.ownsRow B 35 2 qv Q.length (prRow Q)) (hB : W.heap.size ≤ B) : ∀ g, qv.ownBlock = some g → W.heap.size ≤ g ∧ g < W'.heap.size := fun g hg => ⟨by have := (h.lt g hg).1; omega, (h.lt g hg).2⟩
theorem ps_drew {w W : World} {l m n mn : Nat} {v qv : Value} {P Q : List Pr} {st : Int} {hg : ByteArray → Nat} {mp : ByteArray → Option Nat} (h : PS w l m v P n st hg mn mp qv Q W) : PS w l m v P n st hg mn mp qv Q W.drew := ps_below h (below_drew _ _)
set_option maxRecDepth 100000 in
set_option maxHeartbeats 8000000 in
theorem plays_main {w : World} {A : Option Addr} {c : Nat} {l : List Ac} (key : ByteArray) (mt : Nat) (RA : Hid (ARow w A l)) (hl : l.length ≤ 80) (hk : key.size ≤ 300) (hmt : mt ≤ 255) (hok : ∀ x ∈ l, okA l.length 80 x) :
    Calls Try.prog 3 #[.slice A l.length c, .string key, .int .u8 mt] w (LightW w true) := by
  have HO := Lib.hid hok
  clear hok
  have hd2 : decide ((300 : Int) < (key.size : Int)) = false := by simp; omega
  have hmm := @run_makeMap Try.prog
  go_enter Try.func3, Try.ntmps3
  go_wp2_with (first
    | (go_at_call 4; (with_reducible refine (awake_any _).mono ?_); rintro e w1 ⟨rfl, b1⟩)
    | (go_at_call 5; (with_reducible refine (light_all (m := 80) (mi := 80) rfl (arow_on RA b1) (by omega) (by decide) HO.out).mono ?_); rintro e w2 ⟨rfl, b2⟩)
    | (go_at_call 6; (with_reducible refine (newH_any _).mono ?_); rintro e w3 ⟨rfl, h3, b3⟩; have T0 := Lib.hid (ps_start (b1.trans (b2.mono b1.size)) h3 b3); clear h3 b3))
  clear hmm b1 b2
  go_loopw [8, 35] (PlRel w w2.heap.size w3.heap.size l) (fun _ i _ => l.length - (intOf i).toNat)
  case atStart => exact ⟨0, 0, 0, _, [], _, _, _, by omega, rfl, by omega, by omega, T0.out, fun k => ⟨rfl, rfl⟩, List.Pairwise.nil, by simp⟩
  case round =>
    obtain ⟨j, n, mn, v, P, st, hg, mp, hj, rfl, hn, hmn, T, hag, hsr, hsz⟩ := hrel
    replace T := Lib.hid T
    clear T0
    have hPn := T.out.lst.lst.len
    by_cases hlt : j < l.length
    · obtain ⟨a, rfl, hab, hca⟩ := RA.out (by omega)
      obtain ⟨x0, x1, x2⟩ := hca j hlt
      obtain ⟨o1, o2, o3⟩ := HO.out l[j] (List.getElem_mem hlt)
      have hbl : (a.add (j * 3)).block < w.heap.size := by rw [block_add]; exact hab
      rw [← T.out.below.cell (p := a.add (j * 3)) hbl] at x0
      rw [← T.out.below.cell (p := ⟨(a.add (j * 3)).block, (a.add (j * 3)).off + 1, none⟩) hbl] at x1
      rw [← T.out.below.cell (p := ⟨(a.add (j * 3)).block, (a.add (j * 3)).off + 2, none⟩) hbl] at x2
      clear hca hbl
      generalize l[j] = y at *
      obtain ⟨yk, yv, yh⟩ := y
      simp only at x0 x1 x2 o2 o3
      have TB := Lib.hid (ps_below T.out ((Below.refl _ wr).alloc (Nat.le_refl _) (.cells #[.string yk, .string yv, .int .i64 yh] 30)))
      have X0 : Hid ((wr.alloc (.cells #[.string yk, .string yv, .int .i64 yh] 30)).heap[wr.heap.size]? = some (.cells #[.string yk, .string yv, .int .i64 yh] 30 (0, 0))) := heap_alloc_new wr _
      have hnf : Hid (wr.heap.size ∉ feet w2.heap.size v) := fun hm => by have := T.out.lst.lt _ hm; omega
      have hnm : Hid (w3.heap.size ≠ wr.heap.size) := fun e => by have := hmap_lt T.out.map; omega
      have hka : Hid (yk.size ≤ 1099511627776) := by rw [Hid]; omega
      have hva : Hid (yv.size ≤ 1099511627776) := by rw [Hid]; omega
      obtain ⟨hh, hhh⟩ : ∃ hh : Nat, min (max yh 1) 12 = (hh : Int) := ⟨(min (max yh 1) 12).toNat, by omega⟩
      have h12 : hh ≤ 12 := by omega
      replace hhh := Lib.hid hhh
      have hrp := rp_put (yk, yv) P [] hsr
      have hpl := put_len P yk yv
      have SR1 := put_srt hsr yk yv
      have SZ1 : ∀ x ∈ putL P yk yv, x.1.size ≤ 300 ∧ x.2.size ≤ 300 := fun x hx => by
        rcases put_mem hx with hx | rfl
        · exact hsz x hx
        · exact ⟨o2, o3⟩
      rw [List.nil_append] at hrp
      obtain ⟨P1, hP1⟩ : ∃ P1, putL P yk yv = P1 := ⟨_, rfl⟩
      obtain ⟨hg1, hG1⟩ : ∃ hg1, putHg P yk hh hg = hg1 := ⟨_, rfl⟩
      simp only at hrp
      rw [hP1] at hrp hpl SR1 SZ1
      have HRP := Lib.hid hrp
      replace SR1 := Lib.hid SR1
      replace SZ1 := Lib.hid SZ1
      replace hsr := Lib.hid hsr
      replace hsz := Lib.hid hsz
      clear hrp
      cases hmp : mp yk with
      | none =>
        obtain ⟨mp1, hmp1⟩ : ∃ mp1, (fun k' => if k' = yk then some hh else mp k') = mp1 := ⟨_, rfl⟩
        have AG := agree_new (x := yv) (hh := hh) hag hmp
        rw [hP1, hG1, hmp1] at AG
        have HM1 := Lib.hid hmp1
        replace AG := Lib.hid AG
        have HMP := Lib.hid hmp
        have HP1 := Lib.hid hP1
        have HG1 := Lib.hid hG1
        clear hmp hP1 hG1 hag hmp1
        go_wp2_with (first
          | (go_at_call 10; (with_reducible refine (rget_any T8.out.row key (by omega)).mono ?_); rintro e w9 ⟨rfl, hb9⟩; have X9 := Lib.hid ((hb9.block _ hw8).trans X8.out); have T9 := Lib.hid (ps_below T8.out hb9); have T9d := Lib.hid (ps_drew T9.out); have hw9 : wr.heap.size < w9.heap.size := Nat.lt_of_lt_of_le hw8 hb9.size; have hl9 := Lib.hid T9.out.lst.lst.len; have hst9 : decide (IntKind.i64.wrap ((P1.length : Int) + 12) < (st8 : Int)) = false := decide_eq_false (by have := hl9.out.1; rw [IntWalk.i64_in _ (by omega)]; omega); have hst10 : decide ((P1.length : Int) + 12 < (st8 : Int)) = false := decide_eq_false (by have := hl9.out.1; omega); clear hb9)
          | (go_at_call 9; (with_reducible refine (getH_any T7.out.lst key).mono ?_); rintro e w8 ⟨rfl, st8, hst8, hL8, hM8⟩; have X8 := Lib.hid ((hM8.only.block _ hw7 (fun hm => HN5.out hm)).trans X7.out); have T8 := Lib.hid (ps_moves T7.out hL8 hM8); have hw8 : wr.heap.size < w8.heap.size := Nat.lt_of_lt_of_le hw7 hM8.only.size; clear hL8 hM8)
          | (go_at_call 8; (with_reducible refine (rput_any T5.out.row yk yv (by omega)).mono ?_); rintro e w6 ⟨q6, rfl, ho6, hb6⟩; rw [HRP.out] at ho6; obtain ⟨A6, c6, hq6⟩ := row_slice ho6; subst hq6; have X6 := Lib.hid ((hb6.block _ hw5).trans X5.out); obtain ⟨k60, k61, k62⟩ := box_cells3 X6.out; have T6 := Lib.hid (ps_row T5.out hb6 (prat_of_owns ho6).1 (own_low ho6 (by omega))); have hw6 : wr.heap.size < w6.heap.size := Nat.lt_of_lt_of_le hw5 hb6.size; obtain ⟨lv, E6⟩ := hmap_ok T6.out.map (s := yk) (by unfold maxLen; omega); rw [HMP.out] at E6; obtain ⟨w7, E7, hM7, hg7⟩ := hmap_put T6.out.map (by unfold maxLen; omega) (s := yk) (by unfold maxLen; omega) hhh.out h12; have X7 := Lib.hid ((hg7.block _ hw6 (fun e => hnm.out (by injection e with e; exact e.symm))).trans X6.out); obtain ⟨k70, k71, k72⟩ := box_cells3 X7.out; rw [HM1.out] at hM7; have T7 := Lib.hid (ps_map T6.out hM7 hg7); have hw7 : wr.heap.size < w7.heap.size := Nat.lt_of_lt_of_le hw6 hg7.size; clear hM7 hg7; clear ho6 hb6)
          | (go_at_call 7; (with_reducible refine (putH_any TB.out.lst yk yv hka.out hva.out yh (by omega) hhh.out).mono ?_); rintro e w5 ⟨rfl, v5, n5, st5, hL5, hn5, hM5⟩; have X5 := Lib.hid ((hM5.only.block _ (by simp) hnf.out).trans X0.out); obtain ⟨k50, k51, k52⟩ := box_cells3 X5.out; rw [HP1.out, HG1.out] at hL5; have T5 := Lib.hid (ps_moves TB.out hL5 hM5); have HN5 : Hid (wr.heap.size ∉ feet w2.heap.size v5) := (fun hm => by rcases hM5.fresh _ hm with h | h; exact hnf.out h; simp at h; omega); have hw5 : wr.heap.size < w5.heap.size := (Array.getElem?_eq_some_iff.1 X5.out).1; clear hL5 hM5))
        first | (go_region_held_law (fun wx => wx.cell? ⟨wr.heap.size, 0, none⟩ = some (.string yk))
          (first | exact (box_cells3 X9.out).1 | exact (box_cells3 X11.out).1 | exact (box_cells3 X12.out).1 | exact (box_cells3 (W := World.drew _) X9.out).1 | exact (box_cells3 (W := World.drew _) X11.out).1)
          (first
            | (go_at_call 11; (with_reducible refine (stepsH_any T9d.out.lst).mono ?_); rintro e w' ⟨rfl, rfl⟩)
            | (go_at_call 12; (with_reducible refine (lenL_any T9d.out.lst.lst).mono ?_); rintro e w' ⟨rfl, rfl⟩)
            | (go_at_call 13; (with_reducible refine (bytesL_any T9d.out.lst.lst).mono ?_); rintro e w' ⟨rfl, rfl⟩)
            | (go_at_call 14; (with_reducible refine (rbytes_any T9d.out.row (by omega) SZ1.out).mono ?_); rintro e w11 ⟨rfl, hb11⟩; have X11 := Lib.hid ((hb11.block _ hw9).trans X9.out); have T11 := Lib.hid (ps_below T9d.out hb11); have hw11 : wr.heap.size < w11.heap.size := Nat.lt_of_lt_of_le hw9 hb11.size; have E11 := hmap_look T11.out.map (s := yk) (by unfold maxLen; omega); rw [← (AG.out yk).1] at E11; clear hb11)
            | (go_at_call 15; (with_reducible refine (heightH_any T11.out.lst yk).mono ?_); rintro e w12 ⟨rfl, hb12⟩; have X12 := Lib.hid ((hb12.block _ hw11).trans X11.out); have T12 := Lib.hid (ps_below T11.out hb12); have E12 := hmap_look T12.out.map (s := yk) (by unfold maxLen; omega); rw [← (AG.out yk).1] at E12; clear hb12))) | fail
        all_goals
          go_wp2
          go_roundw
          case rel => exact ⟨j + 1, n5, mn + 1, v5, P1, _, hg1, mp1, by omega, by go_num, by omega, by omega, T12.out, AG.out, SR1.out, SZ1.out⟩
          case measure => simp [intOf]; omega
      | some c0 =>
        have AG := agree_old (x := yv) (hh := hh) hag hmp
        rw [hP1, hG1] at AG
        replace AG := Lib.hid AG
        have HMP := Lib.hid hmp
        have HP1 := Lib.hid hP1
        have HG1 := Lib.hid hG1
        clear hmp hP1 hG1 hag
        go_wp2_with (first
          | (go_at_call 10; (with_reducible refine (rget_any T8.out.row key (by omega)).mono ?_); rintro e w9 ⟨rfl, hb9⟩; have X9 := Lib.hid ((hb9.block _ hw8).trans X8.out); have T9 := Lib.hid (ps_below T8.out hb9); have T9d := Lib.hid (ps_drew T9.out); have hw9 : wr.heap.size < w9.heap.size := Nat.lt_of_lt_of_le hw8 hb9.size; have hl9 := Lib.hid T9.out.lst.lst.len; have hst9 : decide (IntKind.i64.wrap ((P1.length : Int) + 12) < (st8 : Int)) = false := decide_eq_false (by have := hl9.out.1; rw [IntWalk.i64_in _ (by omega)]; omega); have hst10 : decide ((P1.length : Int) + 12 < (st8 : Int)) = false := decide_eq_false (by have := hl9.out.1; omega); clear hb9)
          | (go_at_call 9; (with_reducible refine (getH_any T6.out.lst key).mono ?_); rintro e w8 ⟨rfl, st8, hst8, hL8, hM8⟩; have X8 := Lib.hid ((hM8.only.block _ hw6 (fun hm => HN5.out hm)).trans X6.out); have T8 := Lib.hid (ps_moves T6.out hL8 hM8); have hw8 : wr.heap.size < w8.heap.size := Nat.lt_of_lt_of_le hw6 hM8.only.size; clear hL8 hM8)
          | (go_at_call 8; (with_reducible refine (rput_any T5.out.row yk yv (by omega)).mono ?_); rintro e w6 ⟨q6, rfl, ho6, hb6⟩; rw [HRP.out] at ho6; obtain ⟨A6, c6, hq6⟩ := row_slice ho6; subst hq6; have X6 := Lib.hid ((hb6.block _ hw5).trans X5.out); obtain ⟨k60, k61, k62⟩ := box_cells3 X6.out; have T6 := Lib.hid (ps_row T5.out hb6 (prat_of_owns ho6).1 (own_low ho6 (by omega))); have hw6 : wr.heap.size < w6.heap.size := Nat.lt_of_lt_of_le hw5 hb6.size; obtain ⟨lv, E6⟩ := hmap_ok T6.out.map (s := yk) (by unfold maxLen; omega); rw [HMP.out] at E6; skip; clear ho6 hb6)
          | (go_at_call 7; (with_reducible refine (putH_any TB.out.lst yk yv hka.out hva.out yh (by omega) hhh.out).mono ?_); rintro e w5 ⟨rfl, v5, n5, st5, hL5, hn5, hM5⟩; have X5 := Lib.hid ((hM5.only.block _ (by simp) hnf.out).trans X0.out); obtain ⟨k50, k51, k52⟩ := box_cells3 X5.out; rw [HP1.out, HG1.out] at hL5; have T5 := Lib.hid (ps_moves TB.out hL5 hM5); have HN5 : Hid (wr.heap.size ∉ feet w2.heap.size v5) := (fun hm => by rcases hM5.fresh _ hm with h | h; exact hnf.out h; simp at h; omega); have hw5 : wr.heap.size < w5.heap.size := (Array.getElem?_eq_some_iff.1 X5.out).1; clear hL5 hM5))
        first | (go_region_held_law (fun wx => wx.cell? ⟨wr.heap.size, 0, none⟩ = some (.string yk))
          (first | exact (box_cells3 X9.out).1 | exact (box_cells3 X11.out).1 | exact (box_cells3 X12.out).1 | exact (box_cells3 (W := World.drew _) X9.out).1 | exact (box_cells3 (W := World.drew _) X11.out).1)
          (first
            | (go_at_call 11; (with_reducible refine (stepsH_any T9d.out.lst).mono ?_); rintro e w' ⟨rfl, rfl⟩)
            | (go_at_call 12; (with_reducible refine (lenL_any T9d.out.lst.lst).mono ?_); rintro e w' ⟨rfl, rfl⟩)
            | (go_at_call 13; (with_reducible refine (bytesL_any T9d.out.lst.lst).mono ?_); rintro e w' ⟨rfl, rfl⟩)
            | (go_at_call 14; (with_reducible refine (rbytes_any T9d.out.row (by omega) SZ1.out).mono ?_); rintro e w11 ⟨rfl, hb11⟩; have X11 := Lib.hid ((hb11.block _ hw9).trans X9.out); have T11 := Lib.hid (ps_below T9d.out hb11); have hw11 : wr.heap.size < w11.heap.size := Nat.lt_of_lt_of_le hw9 hb11.size; have E11 := hmap_look T11.out.map (s := yk) (by unfold maxLen; omega); rw [← (AG.out yk).1] at E11; clear hb11)
            | (go_at_call 15; (with_reducible refine (heightH_any T11.out.lst yk).mono ?_); rintro e w12 ⟨rfl, hb12⟩; have X12 := Lib.hid ((hb12.block _ hw11).trans X11.out); have T12 := Lib.hid (ps_below T11.out hb12); have E12 := hmap_look T12.out.map (s := yk) (by unfold maxLen; omega); rw [← (AG.out yk).1] at E12; clear hb12))) | fail
        all_goals
          go_wp2
          go_roundw
          case rel => exact ⟨j + 1, n5, mn, v5, P1, _, hg1, mp, by omega, by go_num, by omega, by omega, T12.out, AG.out, SR1.out, SZ1.out⟩
          case measure => simp [intOf]; omega
    · have hP80 : P.length ≤ 80 := by omega
      have huL := upL_len P key
      have hdL := dnL_len P key
      have HU2 : Hid ((upL P key).take 200 = upL P key) := List.take_of_length_le (by omega)
      have HD2 : Hid ((dnL P key).take 200 = dnL P key) := List.take_of_length_le (by omega)
      have HP2 : Hid ((upL P ⟨#[]⟩).take 200 = P) := by rw [Hid, upL_all]; exact List.take_of_length_le (by omega)
      obtain ⟨um, hum⟩ : ∃ um, (upL P key).take mt = um := ⟨_, rfl⟩
      obtain ⟨dm, hdm⟩ : ∃ dm, (dnL P key).take mt = dm := ⟨_, rfl⟩
      have HUk : Hid (um.length ≤ 100000) := by rw [Hid, ← hum, List.length_take]; omega
      have HDk : Hid (dm.length ≤ 100000) := by rw [Hid, ← hdm, List.length_take]; omega
      have HUl : Hid ((upL P key).length ≤ 100000) := by rw [Hid]; omega
      have HDl : Hid ((dnL P key).length ≤ 100000) := by rw [Hid]; omega
      have HPl : Hid (P.length ≤ 100000) := by rw [Hid]; omega
      have cutU : ∀ {W : World} {A0 : Option Addr} {c0 N : Nat}, PrAt W (.slice A0 (upL P key).length c0) (upL P key) → (N : Int) = min (mt : Int) ((upL P key).length : Int) → PrAt W (.slice A0 N c0) um := fun {W A0 c0 N} h hN => by
        have h2 := prat_cut (N := N) h (by omega)
        have e : (upL P key).take N = um := by
          rw [← hum]
          rcases Nat.le_total mt (upL P key).length with hle | hle
          · rw [show N = mt by omega]
          · rw [List.take_of_length_le (by omega), List.take_of_length_le hle]
        rw [e] at h2; exact h2
      have cutD : ∀ {W : World} {A0 : Option Addr} {c0 N : Nat}, PrAt W (.slice A0 (dnL P key).length c0) (dnL P key) → (N : Int) = min (mt : Int) ((dnL P key).length : Int) → PrAt W (.slice A0 N c0) dm := fun {W A0 c0 N} h hN => by
        have h2 := prat_cut (N := N) h (by omega)
        have e : (dnL P key).take N = dm := by
          rw [← hdm]
          rcases Nat.le_total mt (dnL P key).length with hle | hle
          · rw [show N = mt by omega]
          · rw [List.take_of_length_le (by omega), List.take_of_length_le hle]
        rw [e] at h2; exact h2
      have HUm := Lib.hid hum
      have HDm := Lib.hid hdm
      replace hag := Lib.hid hag
      replace hsr := Lib.hid hsr
      replace hsz := Lib.hid hsz
      replace hPn := Lib.hid hPn
      clear hum hdm
      obtain ⟨Aq, cq, rfl, hcq, hcc⟩ : ∃ A c, u8 = .slice A P.length c ∧ True ∧ True := by
        obtain ⟨A, c, e, _⟩ := T.out.row
        exact ⟨A, c, e, trivial, trivial⟩
      clear hcq hcc
      go_wp2_with (first
        | (go_at_call 17; have Z := U20; (with_reducible refine (rdown_any T20.out.row key (by omega)).mono ?_); rintro e w21 ⟨v21, rfl, ho, hb⟩; obtain ⟨A21, c21, hq21⟩ := row_slice ho; subst hq21; have hc21 : (dnL P key).length ≤ c21 := prat_cap (prat_of_owns ho).1; have mb1 : (0 : Int) ≤ min (mt : Int) ((dnL P key).length : Int) := (by omega); have mb2 : min (mt : Int) ((dnL P key).length : Int) ≤ (c21 : Int) := (by omega); have T21 := Lib.hid (ps_below T20.out hb); have U21 := Lib.hid (kr_below U20.out hb); have D21 := Lib.hid (kr_new T20.out (prat_of_owns ho).1 (fun g hg => (own_low ho (Nat.le_refl _) g hg).1)); have T21d := Lib.hid (ps_drew T21.out); have U21d := Lib.hid (kr_below U21.out (below_drew _ _)); have D21d := Lib.hid (kr_below D21.out (below_drew _ _)); clear ho hb)
        | (go_at_call 16; (with_reducible refine (rfrom_any T.out.row key (by omega)).mono ?_); rintro e w20 ⟨v20, rfl, ho, hb⟩; obtain ⟨A20, c20, hq20⟩ := row_slice ho; subst hq20; have hc20 : (upL P key).length ≤ c20 := prat_cap (prat_of_owns ho).1; have ma1 : (0 : Int) ≤ min (mt : Int) ((upL P key).length : Int) := (by omega); have ma2 : min (mt : Int) ((upL P key).length : Int) ≤ (c20 : Int) := (by omega); have T20 := Lib.hid (ps_below T.out hb); have U20 := Lib.hid (kr_new T.out (prat_of_owns ho).1 (fun g hg => (own_low ho (Nat.le_refl _) g hg).1)); clear ho hb))
      refine wp_region_noPanic ?_
      refine wp_region_held_drew (S := fun _ => True) (by kernel_rfl) trivial (fun _ => ?_)
      refine wpAnyH_take (S := fun _ => True) (i := 0) (oi := { dst := some 133, op := Go.Op.move (Go.Operand.tmp 7), type := 25, pos := "law.go:84", after := #[], guard := none }) (v := ?v1) rfl (by kernel_rfl) (by kernel_rfl) (by kernel_rfl) (fun _ _ _ h => h) (Or.inl ⟨by rfl, ?y1⟩) trivial ?r1
      case y1 => (intro w hSw; go_simp; try with_reducible rfl)
      try simp only [Act.put, List.setIfInBounds_toArray, List.set_cons_zero, List.set_cons_succ]
      refine wpAnyH_take (S := fun _ => True) (i := 1) (oi := { dst := some 134, op := Go.Op.move (Go.Operand.tmp 1), type := 9, pos := "law.go:84", after := #[], guard := none }) (v := ?v2) rfl (by kernel_rfl) (by kernel_rfl) (by kernel_rfl) (fun _ _ _ h => h) (Or.inl ⟨by rfl, ?y2⟩) trivial ?r2
      case y2 => (intro w hSw; go_simp; try with_reducible rfl)
      try simp only [Act.put, List.setIfInBounds_toArray, List.set_cons_zero, List.set_cons_succ]
      refine wpAnyH_take (S := fun _ => True) (i := 4) (oi := { dst := some 137, op := Go.Op.move (Go.Operand.tmp 19), type := 27, pos := "law.go:84", after := #[], guard := none }) (v := ?v3) rfl (by kernel_rfl) (by kernel_rfl) (by kernel_rfl) (fun _ _ _ h => h) (Or.inl ⟨by rfl, ?y3⟩) trivial ?r3
      case y3 => (intro w hSw; go_simp; try with_reducible rfl)
      try simp only [Act.put, List.setIfInBounds_toArray, List.set_cons_zero, List.set_cons_succ]
      refine wpAnyH_ready (rs := [2]) (by kernel_rfl) (by simp) ?_
      refine AllReadyH.cons (o := { dst := some 135, op := Go.Op.call { callee := Go.Callee.value (Go.Operand.func 20), args := #[Go.Operand.tmp 133, Go.Operand.tmp 134], argTypes := #[25, 9] }, type := 47, pos := "law.go:84", after := #[{ on := 0, ground := Go.Ground.data }, { on := 1, ground := Go.Ground.data }], guard := none }) rfl (fun K hK => ?_) AllReadyH.nil
      go_simp
      (go_at_call 20; have Z := T21d; (with_reducible refine (from_any _ w2.heap.size key).mono ?_); rintro e w22 ⟨rfl, hE⟩; have E22 := Lib.hid hE; clear hE)
      refine hK.out _ _ trivial (fun _ => ?_)
      clear hK K
      try simp only [Act.put, List.setIfInBounds_toArray, List.set_cons_zero, List.set_cons_succ]
      refine wpAnyH_ready (rs := [3]) (by kernel_rfl) (by simp) ?_
      refine AllReadyH.cons (o := { dst := some 136, op := Go.Op.call { callee := Go.Callee.value (Go.Operand.func 19), args := #[Go.Operand.tmp 135, Go.Operand.const (Go.Value.int Go.IntKind.i64 200)], argTypes := #[47, 3] }, type := 27, pos := "law.go:84", after := #[{ on := 2, ground := Go.Ground.data }, { on := 2, ground := Go.Ground.chain }], guard := none }) rfl (fun K hK => ?_) AllReadyH.nil
      go_simp
      (go_at_call 19; have Z := E22; (first | (with_reducible refine (rowFromH T21d.out.lst key 200 (by omega) (mi := 200) rfl E22.out).mono ?_) | refine (rowFromH T21d.out.lst key 200 (by omega) (mi := 200) rfl E22.out).mono ?_); rintro e w23 ⟨v23, rfl, ho, ⟨st23, hL⟩, hM⟩; rw [HU2.out] at ho; have hbE := al2 E22; have TT := ps_below T21d.out hbE; have T23 := Lib.hid (ps_moves TT hL hM); have R23 := Lib.hid (kr_new TT (prat_of_owns ho).1 (fun g hg => (own_low ho (Nat.le_refl _) g hg).1)); have U23 := Lib.hid (kr_only (kr_below U21d.out hbE) hM.only); have D23 := Lib.hid (kr_only (kr_below D21d.out hbE) hM.only); clear ho hL hM hbE TT)
      refine hK.out _ _ trivial (fun _ => ?_)
      clear hK K
      try simp only [Act.put, List.setIfInBounds_toArray, List.set_cons_zero, List.set_cons_succ]
      refine wpAnyH_ready (rs := [5]) (by kernel_rfl) (by simp) ?_
      refine AllReadyH.cons (o := { dst := some 138, op := Go.Op.call { callee := Go.Callee.value (Go.Operand.func 18), args := #[Go.Operand.tmp 136, Go.Operand.tmp 137], argTypes := #[27, 27] }, type := 4, pos := "law.go:84", after := #[{ on := 3, ground := Go.Ground.data }, { on := 4, ground := Go.Ground.data }, { on := 3, ground := Go.Ground.chain }], guard := none }) rfl (fun K hK => ?_) AllReadyH.nil
      go_simp
      (go_at_call 18; have Z := R23; (with_reducible refine (same_pr (kr_at R23.out) (kr_at U23.out) HUl.out).mono ?_); rintro e w24 ⟨rfl, hb⟩; have T24 := Lib.hid (ps_below T23.out hb); have U24 := Lib.hid (kr_below U23.out hb); have D24 := Lib.hid (kr_below D23.out hb); clear hb)
      refine hK.out _ _ trivial (fun _ => ?_)
      clear hK K
      try simp only [Act.put, List.setIfInBounds_toArray, List.set_cons_zero, List.set_cons_succ]
      try clear R23
      try clear T23
      try clear U23
      try clear D23
      try clear E22
      try clear T21d
      try clear U21d
      try clear D21d
      try clear T21
      try clear U21
      try clear D21
      try clear T20
      try clear U20
      try clear T
      refine wpAnyH_take (S := fun _ => True) (i := 6) (oi := { dst := some 139, op := Go.Op.move (Go.Operand.tmp 138), type := 4, pos := "law.go:84", after := #[{ on := 5, ground := Go.Ground.data }, { on := 5, ground := Go.Ground.chain }], guard := none }) (v := ?v4) rfl (by kernel_rfl) (by kernel_rfl) (by kernel_rfl) (fun _ _ _ h => h) (Or.inl ⟨by rfl, ?y4⟩) trivial ?r4
      case y4 => (intro w hSw; go_simp; try with_reducible rfl)
      try simp only [Act.put, List.setIfInBounds_toArray, List.set_cons_zero, List.set_cons_succ]
      refine wpAnyH_take (S := fun _ => True) (i := 7) (oi := { dst := some 140, op := Go.Op.move (Go.Operand.tmp 7), type := 25, pos := "law.go:84", after := #[{ on := 6, ground := Go.Ground.guard }], guard := some (6, true) }) (v := ?v5) rfl (by kernel_rfl) (by kernel_rfl) (by kernel_rfl) (fun _ _ _ h => h) (Or.inl ⟨by rfl, ?y5⟩) trivial ?r5
      case y5 => (intro w hSw; go_simp; try with_reducible rfl)
      try simp only [Act.put, List.setIfInBounds_toArray, List.set_cons_zero, List.set_cons_succ]
      refine wpAnyH_take (S := fun _ => True) (i := 8) (oi := { dst := some 141, op := Go.Op.move (Go.Operand.tmp 1), type := 9, pos := "law.go:84", after := #[{ on := 6, ground := Go.Ground.guard }], guard := some (6, true) }) (v := ?v6) rfl (by kernel_rfl) (by kernel_rfl) (by kernel_rfl) (fun _ _ _ h => h) (Or.inl ⟨by rfl, ?y6⟩) trivial ?r6
      case y6 => (intro w hSw; go_simp; try with_reducible rfl)
      try simp only [Act.put, List.setIfInBounds_toArray, List.set_cons_zero, List.set_cons_succ]
      refine wpAnyH_take (S := fun _ => True) (i := 11) (oi := { dst := some 144, op := Go.Op.move (Go.Operand.tmp 20), type := 27, pos := "law.go:84", after := #[{ on := 6, ground := Go.Ground.guard }], guard := some (6, true) }) (v := ?v7) rfl (by kernel_rfl) (by kernel_rfl) (by kernel_rfl) (fun _ _ _ h => h) (Or.inl ⟨by rfl, ?y7⟩) trivial ?r7
      case y7 => (intro w hSw; go_simp; try with_reducible rfl)
      try simp only [Act.put, List.setIfInBounds_toArray, List.set_cons_zero, List.set_cons_succ]
      refine wpAnyH_ready (rs := [9]) (by kernel_rfl) (by simp) ?_
      refine AllReadyH.cons (o := { dst := some 142, op := Go.Op.call { callee := Go.Callee.value (Go.Operand.func 21), args := #[Go.Operand.tmp 140, Go.Operand.tmp 141], argTypes := #[25, 9] }, type := 47, pos := "law.go:84", after := #[{ on := 7, ground := Go.Ground.data }, { on := 8, ground := Go.Ground.data }, { on := 6, ground := Go.Ground.chain }, { on := 6, ground := Go.Ground.guard }], guard := some (6, true) }) rfl (fun K hK => ?_) AllReadyH.nil
      go_simp
      (go_at_call 21; have Z := T24; (with_reducible refine (down_any _ w2.heap.size key).mono ?_); rintro e w25 ⟨rfl, hE⟩; have E25 := Lib.hid hE; clear hE)
      refine hK.out _ _ trivial (fun _ => ?_)
      clear hK K
      try simp only [Act.put, List.setIfInBounds_toArray, List.set_cons_zero, List.set_cons_succ]
      refine wpAnyH_ready (rs := [10]) (by kernel_rfl) (by simp) ?_
      refine AllReadyH.cons (o := { dst := some 143, op := Go.Op.call { callee := Go.Callee.value (Go.Operand.func 19), args := #[Go.Operand.tmp 142, Go.Operand.const (Go.Value.int Go.IntKind.i64 200)], argTypes := #[47, 3] }, type := 27, pos := "law.go:84", after := #[{ on := 9, ground := Go.Ground.data }, { on := 9, ground := Go.Ground.chain }, { on := 6, ground := Go.Ground.guard }], guard := some (6, true) }) rfl (fun K hK => ?_) AllReadyH.nil
      go_simp
      (go_at_call 19; have Z := E25; (first | (with_reducible refine (rowDownH T24.out.lst key 200 (by omega) (mi := 200) rfl E25.out).mono ?_) | refine (rowDownH T24.out.lst key 200 (by omega) (mi := 200) rfl E25.out).mono ?_); rintro e w26 ⟨v26, rfl, ho, ⟨st26, hL⟩, hM⟩; rw [HD2.out] at ho; have hbE := al2 E25; have TT := ps_below T24.out hbE; have T26 := Lib.hid (ps_moves TT hL hM); have R26 := Lib.hid (kr_new TT (prat_of_owns ho).1 (fun g hg => (own_low ho (Nat.le_refl _) g hg).1)); have U26 := Lib.hid (kr_only (kr_below U24.out hbE) hM.only); have D26 := Lib.hid (kr_only (kr_below D24.out hbE) hM.only); clear ho hL hM hbE TT)
      refine hK.out _ _ trivial (fun _ => ?_)
      clear hK K
      try simp only [Act.put, List.setIfInBounds_toArray, List.set_cons_zero, List.set_cons_succ]
      try clear T24
      try clear U24
      try clear D24
      try clear E25
      refine wpAnyH_ready (rs := [12]) (by kernel_rfl) (by simp) ?_
      refine AllReadyH.cons (o := { dst := some 145, op := Go.Op.call { callee := Go.Callee.value (Go.Operand.func 18), args := #[Go.Operand.tmp 143, Go.Operand.tmp 144], argTypes := #[27, 27] }, type := 4, pos := "law.go:84", after := #[{ on := 10, ground := Go.Ground.data }, { on := 11, ground := Go.Ground.data }, { on := 10, ground := Go.Ground.chain }, { on := 6, ground := Go.Ground.guard }], guard := some (6, true) }) rfl (fun K hK => ?_) AllReadyH.nil
      go_simp
      (go_at_call 18; have Z := R26; (with_reducible refine (same_pr (kr_at R26.out) (kr_at D26.out) HDl.out).mono ?_); rintro e w27 ⟨rfl, hb⟩; have T27 := Lib.hid (ps_below T26.out hb); have U27 := Lib.hid (kr_below U26.out hb); have D27 := Lib.hid (kr_below D26.out hb); clear hb)
      refine hK.out _ _ trivial (fun _ => ?_)
      clear hK K
      try simp only [Act.put, List.setIfInBounds_toArray, List.set_cons_zero, List.set_cons_succ]
      try clear R26
      try clear T26
      try clear U26
      try clear D26
      refine wpAnyH_take (S := fun _ => True) (i := 13) (oi := { dst := some 146, op := Go.Op.pick (Go.Operand.tmp 139) (Go.Operand.tmp 145) (Go.Operand.const (Go.Value.bool false)), type := 4, pos := "law.go:84", after := #[{ on := 6, ground := Go.Ground.data }, { on := 12, ground := Go.Ground.data }], guard := none }) (v := ?v8) rfl (by kernel_rfl) (by kernel_rfl) (by kernel_rfl) (fun _ _ _ h => h) (Or.inl ⟨by rfl, ?y8⟩) trivial ?r8
      case y8 => (intro w hSw; go_simp; try with_reducible rfl)
      try simp only [Act.put, List.setIfInBounds_toArray, List.set_cons_zero, List.set_cons_succ]
      refine wpAnyH_take (S := fun _ => True) (i := 14) (oi := { dst := some 147, op := Go.Op.move (Go.Operand.tmp 146), type := 4, pos := "law.go:84", after := #[{ on := 13, ground := Go.Ground.data }, { on := 12, ground := Go.Ground.chain }], guard := none }) (v := ?v9) rfl (by kernel_rfl) (by kernel_rfl) (by kernel_rfl) (fun _ _ _ h => h) (Or.inl ⟨by rfl, ?y9⟩) trivial ?r9
      case y9 => (intro w hSw; go_simp; try with_reducible rfl)
      try simp only [Act.put, List.setIfInBounds_toArray, List.set_cons_zero, List.set_cons_succ]
      refine wpAnyH_take (S := fun _ => True) (i := 15) (oi := { dst := some 148, op := Go.Op.move (Go.Operand.tmp 7), type := 25, pos := "law.go:84", after := #[{ on := 14, ground := Go.Ground.guard }], guard := some (14, true) }) (v := ?v10) rfl (by kernel_rfl) (by kernel_rfl) (by kernel_rfl) (fun _ _ _ h => h) (Or.inl ⟨by rfl, ?y10⟩) trivial ?r10
      case y10 => (intro w hSw; go_simp; try with_reducible rfl)
      try simp only [Act.put, List.setIfInBounds_toArray, List.set_cons_zero, List.set_cons_succ]
      refine wpAnyH_take (S := fun _ => True) (i := 16) (oi := { dst := some 149, op := Go.Op.move (Go.Operand.tmp 1), type := 9, pos := "law.go:84", after := #[{ on := 14, ground := Go.Ground.guard }], guard := some (14, true) }) (v := ?v11) rfl (by kernel_rfl) (by kernel_rfl) (by kernel_rfl) (fun _ _ _ h => h) (Or.inl ⟨by rfl, ?y11⟩) trivial ?r11
      case y11 => (intro w hSw; go_simp; try with_reducible rfl)
      try simp only [Act.put, List.setIfInBounds_toArray, List.set_cons_zero, List.set_cons_succ]
      refine wpAnyH_take (S := fun _ => True) (i := 18) (oi := { dst := some 151, op := Go.Op.move (Go.Operand.tmp 18), type := 3, pos := "law.go:84", after := #[{ on := 14, ground := Go.Ground.guard }], guard := some (14, true) }) (v := ?v12) rfl (by kernel_rfl) (by kernel_rfl) (by kernel_rfl) (fun _ _ _ h => h) (Or.inl ⟨by rfl, ?y12⟩) trivial ?r12
      case y12 => (intro w hSw; go_simp; try with_reducible rfl)
      try simp only [Act.put, List.setIfInBounds_toArray, List.set_cons_zero, List.set_cons_succ]
      refine wpAnyH_take (S := fun _ => True) (i := 20) (oi := { dst := some 153, op := Go.Op.move (Go.Operand.tmp 19), type := 27, pos := "law.go:84", after := #[{ on := 14, ground := Go.Ground.guard }], guard := some (14, true) }) (v := ?v13) rfl (by kernel_rfl) (by kernel_rfl) (by kernel_rfl) (fun _ _ _ h => h) (Or.inl ⟨by rfl, ?y13⟩) trivial ?r13
      case y13 => (intro w hSw; go_simp; try with_reducible rfl)
      try simp only [Act.put, List.setIfInBounds_toArray, List.set_cons_zero, List.set_cons_succ]
      refine wpAnyH_take (S := fun _ => True) (i := 21) (oi := { dst := some 154, op := Go.Op.move (Go.Operand.tmp 18), type := 3, pos := "law.go:84", after := #[{ on := 14, ground := Go.Ground.guard }], guard := some (14, true) }) (v := ?v14) rfl (by kernel_rfl) (by kernel_rfl) (by kernel_rfl) (fun _ _ _ h => h) (Or.inl ⟨by rfl, ?y14⟩) trivial ?r14
      case y14 => (intro w hSw; go_simp; try with_reducible rfl)
      try simp only [Act.put, List.setIfInBounds_toArray, List.set_cons_zero, List.set_cons_succ]
      refine wpAnyH_take (S := fun _ => True) (i := 22) (oi := { dst := some 155, op := Go.Op.move (Go.Operand.tmp 19), type := 27, pos := "law.go:84", after := #[{ on := 14, ground := Go.Ground.guard }], guard := some (14, true) }) (v := ?v15) rfl (by kernel_rfl) (by kernel_rfl) (by kernel_rfl) (fun _ _ _ h => h) (Or.inl ⟨by rfl, ?y15⟩) trivial ?r15
      case y15 => (intro w hSw; go_simp; try with_reducible rfl)
      try simp only [Act.put, List.setIfInBounds_toArray, List.set_cons_zero, List.set_cons_succ]
      refine wpAnyH_take (S := fun _ => True) (i := 23) (oi := { dst := some 156, op := Go.Op.call { callee := Go.Callee.builtin Go.Builtin.len, args := #[Go.Operand.tmp 155], argTypes := #[27] }, type := 3, pos := "law.go:84", after := #[{ on := 22, ground := Go.Ground.data }, { on := 14, ground := Go.Ground.guard }], guard := some (14, true) }) (v := ?v16) rfl (by kernel_rfl) (by kernel_rfl) (by kernel_rfl) (fun _ _ _ h => h) (Or.inl ⟨by rfl, ?y16⟩) trivial ?r16
      case y16 => (intro w hSw; go_simp; try with_reducible rfl)
      try simp only [Act.put, List.setIfInBounds_toArray, List.set_cons_zero, List.set_cons_succ]
      refine wpAnyH_take (S := fun _ => True) (i := 24) (oi := { dst := some 157, op := Go.Op.call { callee := Go.Callee.builtin Go.Builtin.min, args := #[Go.Operand.tmp 154, Go.Operand.tmp 156], argTypes := #[3, 3] }, type := 3, pos := "law.go:84", after := #[{ on := 21, ground := Go.Ground.data }, { on := 23, ground := Go.Ground.data }, { on := 14, ground := Go.Ground.guard }], guard := some (14, true) }) (v := ?v17) rfl (by kernel_rfl) (by kernel_rfl) (by kernel_rfl) (fun _ _ _ h => h) (Or.inl ⟨by rfl, ?y17⟩) trivial ?r17
      case y17 => (intro w hSw; go_simp; try with_reducible rfl)
      try simp only [Act.put, List.setIfInBounds_toArray, List.set_cons_zero, List.set_cons_succ]
      refine wpAnyH_take (S := fun _ => True) (i := 25) (oi := { dst := some 158, op := Go.Op.slice 27 (Go.Operand.tmp 153) none (some (Go.Operand.tmp 157)) none, type := 27, pos := "law.go:84", after := #[{ on := 20, ground := Go.Ground.data }, { on := 24, ground := Go.Ground.data }, { on := 14, ground := Go.Ground.guard }], guard := some (14, true) }) (v := ?v18) rfl (by kernel_rfl) (by kernel_rfl) (by kernel_rfl) (fun _ _ _ h => h) (Or.inl ⟨by rfl, ?y18⟩) trivial ?r18
      case y18 => (intro w hSw; go_simp; try with_reducible rfl)
      try simp only [Act.put, List.setIfInBounds_toArray, List.set_cons_zero, List.set_cons_succ]
      refine wpAnyH_ready (rs := [17]) (by kernel_rfl) (by simp) ?_
      refine AllReadyH.cons (o := { dst := some 150, op := Go.Op.call { callee := Go.Callee.value (Go.Operand.func 20), args := #[Go.Operand.tmp 148, Go.Operand.tmp 149], argTypes := #[25, 9] }, type := 47, pos := "law.go:84", after := #[{ on := 15, ground := Go.Ground.data }, { on := 16, ground := Go.Ground.data }, { on := 14, ground := Go.Ground.chain }, { on := 14, ground := Go.Ground.guard }], guard := some (14, true) }) rfl (fun K hK => ?_) AllReadyH.nil
      go_simp
      (go_at_call 20; have Z := T27; (with_reducible refine (from_any _ w2.heap.size key).mono ?_); rintro e w28 ⟨rfl, hE⟩; have E28 := Lib.hid hE; clear hE)
      refine hK.out _ _ trivial (fun _ => ?_)
      clear hK K
      try simp only [Act.put, List.setIfInBounds_toArray, List.set_cons_zero, List.set_cons_succ]
      refine wpAnyH_ready (rs := [19]) (by kernel_rfl) (by simp) ?_
      refine AllReadyH.cons (o := { dst := some 152, op := Go.Op.call { callee := Go.Callee.value (Go.Operand.func 19), args := #[Go.Operand.tmp 150, Go.Operand.tmp 151], argTypes := #[47, 3] }, type := 27, pos := "law.go:84", after := #[{ on := 17, ground := Go.Ground.data }, { on := 18, ground := Go.Ground.data }, { on := 17, ground := Go.Ground.chain }, { on := 14, ground := Go.Ground.guard }], guard := some (14, true) }) rfl (fun K hK => ?_) AllReadyH.nil
      go_simp
      (go_at_call 19; have Z := E28; (first | (with_reducible refine (rowFromH T27.out.lst key mt (by omega) (mi := _) (by omega) E28.out).mono ?_) | refine (rowFromH T27.out.lst key mt (by omega) (mi := _) (by omega) E28.out).mono ?_); rintro e w29 ⟨v29, rfl, ho, ⟨st29, hL⟩, hM⟩; rw [HUm.out] at ho; have hbE := al2 E28; have TT := ps_below T27.out hbE; have T29 := Lib.hid (ps_moves TT hL hM); have R29 := Lib.hid (kr_new TT (prat_of_owns ho).1 (fun g hg => (own_low ho (Nat.le_refl _) g hg).1)); have U29 := Lib.hid (kr_only (kr_below U27.out hbE) hM.only); have D29 := Lib.hid (kr_only (kr_below D27.out hbE) hM.only); clear ho hL hM hbE TT)
      refine hK.out _ _ trivial (fun _ => ?_)
      clear hK K
      try simp only [Act.put, List.setIfInBounds_toArray, List.set_cons_zero, List.set_cons_succ]
      try clear T27
      try clear U27
      try clear D27
      try clear E28
      refine wpAnyH_ready (rs := [26]) (by kernel_rfl) (by simp) ?_
      refine AllReadyH.cons (o := { dst := some 159, op := Go.Op.call { callee := Go.Callee.value (Go.Operand.func 18), args := #[Go.Operand.tmp 152, Go.Operand.tmp 158], argTypes := #[27, 27] }, type := 4, pos := "law.go:84", after := #[{ on := 19, ground := Go.Ground.data }, { on := 25, ground := Go.Ground.data }, { on := 19, ground := Go.Ground.chain }, { on := 14, ground := Go.Ground.guard }], guard := some (14, true) }) rfl (fun K hK => ?_) AllReadyH.nil
      go_simp
      (go_at_call 18; have Z := R29; (with_reducible refine (same_pr (kr_at R29.out) (cutU (kr_at U29.out) (by omega)) HUk.out).mono ?_); rintro e w30 ⟨rfl, hb⟩; have T30 := Lib.hid (ps_below T29.out hb); have U30 := Lib.hid (kr_below U29.out hb); have D30 := Lib.hid (kr_below D29.out hb); clear hb)
      refine hK.out _ _ trivial (fun _ => ?_)
      clear hK K
      try simp only [Act.put, List.setIfInBounds_toArray, List.set_cons_zero, List.set_cons_succ]
      try clear R29
      try clear T29
      try clear U29
      try clear D29
      refine wpAnyH_take (S := fun _ => True) (i := 27) (oi := { dst := some 160, op := Go.Op.pick (Go.Operand.tmp 147) (Go.Operand.tmp 159) (Go.Operand.const (Go.Value.bool false)), type := 4, pos := "law.go:84", after := #[{ on := 14, ground := Go.Ground.data }, { on := 26, ground := Go.Ground.data }], guard := none }) (v := ?v19) rfl (by kernel_rfl) (by kernel_rfl) (by kernel_rfl) (fun _ _ _ h => h) (Or.inl ⟨by rfl, ?y19⟩) trivial ?r19
      case y19 => (intro w hSw; go_simp; try with_reducible rfl)
      try simp only [Act.put, List.setIfInBounds_toArray, List.set_cons_zero, List.set_cons_succ]
      refine wpAnyH_take (S := fun _ => True) (i := 28) (oi := { dst := some 161, op := Go.Op.move (Go.Operand.tmp 160), type := 4, pos := "law.go:84", after := #[{ on := 27, ground := Go.Ground.data }, { on := 26, ground := Go.Ground.chain }], guard := none }) (v := ?v20) rfl (by kernel_rfl) (by kernel_rfl) (by kernel_rfl) (fun _ _ _ h => h) (Or.inl ⟨by rfl, ?y20⟩) trivial ?r20
      case y20 => (intro w hSw; go_simp; try with_reducible rfl)
      try simp only [Act.put, List.setIfInBounds_toArray, List.set_cons_zero, List.set_cons_succ]
      refine wpAnyH_take (S := fun _ => True) (i := 29) (oi := { dst := some 162, op := Go.Op.move (Go.Operand.tmp 7), type := 25, pos := "law.go:84", after := #[{ on := 28, ground := Go.Ground.guard }], guard := some (28, true) }) (v := ?v21) rfl (by kernel_rfl) (by kernel_rfl) (by kernel_rfl) (fun _ _ _ h => h) (Or.inl ⟨by rfl, ?y21⟩) trivial ?r21
      case y21 => (intro w hSw; go_simp; try with_reducible rfl)
      try simp only [Act.put, List.setIfInBounds_toArray, List.set_cons_zero, List.set_cons_succ]
      refine wpAnyH_take (S := fun _ => True) (i := 30) (oi := { dst := some 163, op := Go.Op.move (Go.Operand.tmp 1), type := 9, pos := "law.go:84", after := #[{ on := 28, ground := Go.Ground.guard }], guard := some (28, true) }) (v := ?v22) rfl (by kernel_rfl) (by kernel_rfl) (by kernel_rfl) (fun _ _ _ h => h) (Or.inl ⟨by rfl, ?y22⟩) trivial ?r22
      case y22 => (intro w hSw; go_simp; try with_reducible rfl)
      try simp only [Act.put, List.setIfInBounds_toArray, List.set_cons_zero, List.set_cons_succ]
      refine wpAnyH_take (S := fun _ => True) (i := 32) (oi := { dst := some 165, op := Go.Op.move (Go.Operand.tmp 18), type := 3, pos := "law.go:84", after := #[{ on := 28, ground := Go.Ground.guard }], guard := some (28, true) }) (v := ?v23) rfl (by kernel_rfl) (by kernel_rfl) (by kernel_rfl) (fun _ _ _ h => h) (Or.inl ⟨by rfl, ?y23⟩) trivial ?r23
      case y23 => (intro w hSw; go_simp; try with_reducible rfl)
      try simp only [Act.put, List.setIfInBounds_toArray, List.set_cons_zero, List.set_cons_succ]
      refine wpAnyH_take (S := fun _ => True) (i := 34) (oi := { dst := some 167, op := Go.Op.move (Go.Operand.tmp 20), type := 27, pos := "law.go:84", after := #[{ on := 28, ground := Go.Ground.guard }], guard := some (28, true) }) (v := ?v24) rfl (by kernel_rfl) (by kernel_rfl) (by kernel_rfl) (fun _ _ _ h => h) (Or.inl ⟨by rfl, ?y24⟩) trivial ?r24
      case y24 => (intro w hSw; go_simp; try with_reducible rfl)
      try simp only [Act.put, List.setIfInBounds_toArray, List.set_cons_zero, List.set_cons_succ]
      refine wpAnyH_take (S := fun _ => True) (i := 35) (oi := { dst := some 168, op := Go.Op.move (Go.Operand.tmp 18), type := 3, pos := "law.go:84", after := #[{ on := 28, ground := Go.Ground.guard }], guard := some (28, true) }) (v := ?v25) rfl (by kernel_rfl) (by kernel_rfl) (by kernel_rfl) (fun _ _ _ h => h) (Or.inl ⟨by rfl, ?y25⟩) trivial ?r25
      case y25 => (intro w hSw; go_simp; try with_reducible rfl)
      try simp only [Act.put, List.setIfInBounds_toArray, List.set_cons_zero, List.set_cons_succ]
      refine wpAnyH_take (S := fun _ => True) (i := 36) (oi := { dst := some 169, op := Go.Op.move (Go.Operand.tmp 20), type := 27, pos := "law.go:84", after := #[{ on := 28, ground := Go.Ground.guard }], guard := some (28, true) }) (v := ?v26) rfl (by kernel_rfl) (by kernel_rfl) (by kernel_rfl) (fun _ _ _ h => h) (Or.inl ⟨by rfl, ?y26⟩) trivial ?r26
      case y26 => (intro w hSw; go_simp; try with_reducible rfl)
      try simp only [Act.put, List.setIfInBounds_toArray, List.set_cons_zero, List.set_cons_succ]
      refine wpAnyH_take (S := fun _ => True) (i := 37) (oi := { dst := some 170, op := Go.Op.call { callee := Go.Callee.builtin Go.Builtin.len, args := #[Go.Operand.tmp 169], argTypes := #[27] }, type := 3, pos := "law.go:84", after := #[{ on := 36, ground := Go.Ground.data }, { on := 28, ground := Go.Ground.guard }], guard := some (28, true) }) (v := ?v27) rfl (by kernel_rfl) (by kernel_rfl) (by kernel_rfl) (fun _ _ _ h => h) (Or.inl ⟨by rfl, ?y27⟩) trivial ?r27
      case y27 => (intro w hSw; go_simp; try with_reducible rfl)
      try simp only [Act.put, List.setIfInBounds_toArray, List.set_cons_zero, List.set_cons_succ]
      refine wpAnyH_take (S := fun _ => True) (i := 38) (oi := { dst := some 171, op := Go.Op.call { callee := Go.Callee.builtin Go.Builtin.min, args := #[Go.Operand.tmp 168, Go.Operand.tmp 170], argTypes := #[3, 3] }, type := 3, pos := "law.go:84", after := #[{ on := 35, ground := Go.Ground.data }, { on := 37, ground := Go.Ground.data }, { on := 28, ground := Go.Ground.guard }], guard := some (28, true) }) (v := ?v28) rfl (by kernel_rfl) (by kernel_rfl) (by kernel_rfl) (fun _ _ _ h => h) (Or.inl ⟨by rfl, ?y28⟩) trivial ?r28
      case y28 => (intro w hSw; go_simp; try with_reducible rfl)
      try simp only [Act.put, List.setIfInBounds_toArray, List.set_cons_zero, List.set_cons_succ]
      refine wpAnyH_take (S := fun _ => True) (i := 39) (oi := { dst := some 172, op := Go.Op.slice 27 (Go.Operand.tmp 167) none (some (Go.Operand.tmp 171)) none, type := 27, pos := "law.go:84", after := #[{ on := 34, ground := Go.Ground.data }, { on := 38, ground := Go.Ground.data }, { on := 28, ground := Go.Ground.guard }], guard := some (28, true) }) (v := ?v29) rfl (by kernel_rfl) (by kernel_rfl) (by kernel_rfl) (fun _ _ _ h => h) (Or.inl ⟨by rfl, ?y29⟩) trivial ?r29
      case y29 => (intro w hSw; go_simp; try with_reducible rfl)
      try simp only [Act.put, List.setIfInBounds_toArray, List.set_cons_zero, List.set_cons_succ]
      refine wpAnyH_ready (rs := [31]) (by kernel_rfl) (by simp) ?_
      refine AllReadyH.cons (o := { dst := some 164, op := Go.Op.call { callee := Go.Callee.value (Go.Operand.func 21), args := #[Go.Operand.tmp 162, Go.Operand.tmp 163], argTypes := #[25, 9] }, type := 47, pos := "law.go:84", after := #[{ on := 29, ground := Go.Ground.data }, { on := 30, ground := Go.Ground.data }, { on := 28, ground := Go.Ground.chain }, { on := 28, ground := Go.Ground.guard }], guard := some (28, true) }) rfl (fun K hK => ?_) AllReadyH.nil
      go_simp
      (go_at_call 21; have Z := T30; (with_reducible refine (down_any _ w2.heap.size key).mono ?_); rintro e w31 ⟨rfl, hE⟩; have E31 := Lib.hid hE; clear hE)
      refine hK.out _ _ trivial (fun _ => ?_)
      clear hK K
      try simp only [Act.put, List.setIfInBounds_toArray, List.set_cons_zero, List.set_cons_succ]
      refine wpAnyH_ready (rs := [33]) (by kernel_rfl) (by simp) ?_
      refine AllReadyH.cons (o := { dst := some 166, op := Go.Op.call { callee := Go.Callee.value (Go.Operand.func 19), args := #[Go.Operand.tmp 164, Go.Operand.tmp 165], argTypes := #[47, 3] }, type := 27, pos := "law.go:84", after := #[{ on := 31, ground := Go.Ground.data }, { on := 32, ground := Go.Ground.data }, { on := 31, ground := Go.Ground.chain }, { on := 28, ground := Go.Ground.guard }], guard := some (28, true) }) rfl (fun K hK => ?_) AllReadyH.nil
      go_simp
      (go_at_call 19; have Z := E31; (first | (with_reducible refine (rowDownH T30.out.lst key mt (by omega) (mi := _) (by omega) E31.out).mono ?_) | refine (rowDownH T30.out.lst key mt (by omega) (mi := _) (by omega) E31.out).mono ?_); rintro e w32 ⟨v32, rfl, ho, ⟨st32, hL⟩, hM⟩; rw [HDm.out] at ho; have hbE := al2 E31; have TT := ps_below T30.out hbE; have T32 := Lib.hid (ps_moves TT hL hM); have R32 := Lib.hid (kr_new TT (prat_of_owns ho).1 (fun g hg => (own_low ho (Nat.le_refl _) g hg).1)); have U32 := Lib.hid (kr_only (kr_below U30.out hbE) hM.only); have D32 := Lib.hid (kr_only (kr_below D30.out hbE) hM.only); clear ho hL hM hbE TT)
      refine hK.out _ _ trivial (fun _ => ?_)
      clear hK K
      try simp only [Act.put, List.setIfInBounds_toArray, List.set_cons_zero, List.set_cons_succ]
      try clear T30
      try clear U30
      try clear D30
      try clear E31
      refine wpAnyH_ready (rs := [40]) (by kernel_rfl) (by simp) ?_
      refine AllReadyH.cons (o := { dst := some 173, op := Go.Op.call { callee := Go.Callee.value (Go.Operand.func 18), args := #[Go.Operand.tmp 166, Go.Operand.tmp 172], argTypes := #[27, 27] }, type := 4, pos := "law.go:84", after := #[{ on := 33, ground := Go.Ground.data }, { on := 39, ground := Go.Ground.data }, { on := 33, ground := Go.Ground.chain }, { on := 28, ground := Go.Ground.guard }], guard := some (28, true) }) rfl (fun K hK => ?_) AllReadyH.nil
      go_simp
      (go_at_call 18; have Z := R32; (with_reducible refine (same_pr (kr_at R32.out) (cutD (kr_at D32.out) (by omega)) HDk.out).mono ?_); rintro e w33 ⟨rfl, hb⟩; have T33 := Lib.hid (ps_below T32.out hb); have U33 := Lib.hid (kr_below U32.out hb); have D33 := Lib.hid (kr_below D32.out hb); clear hb)
      refine hK.out _ _ trivial (fun _ => ?_)
      clear hK K
      try simp only [Act.put, List.setIfInBounds_toArray, List.set_cons_zero, List.set_cons_succ]
      try clear R32
      try clear T32
      try clear U32
      try clear D32
      refine wpAnyH_take (S := fun _ => True) (i := 41) (oi := { dst := some 174, op := Go.Op.pick (Go.Operand.tmp 161) (Go.Operand.tmp 173) (Go.Operand.const (Go.Value.bool false)), type := 4, pos := "law.go:84", after := #[{ on := 28, ground := Go.Ground.data }, { on := 40, ground := Go.Ground.data }], guard := none }) (v := ?v30) rfl (by kernel_rfl) (by kernel_rfl) (by kernel_rfl) (fun _ _ _ h => h) (Or.inl ⟨by rfl, ?y30⟩) trivial ?r30
      case y30 => (intro w hSw; go_simp; try with_reducible rfl)
      try simp only [Act.put, List.setIfInBounds_toArray, List.set_cons_zero, List.set_cons_succ]
      refine wpAnyH_take (S := fun _ => True) (i := 42) (oi := { dst := some 175, op := Go.Op.move (Go.Operand.tmp 174), type := 4, pos := "law.go:84", after := #[{ on := 41, ground := Go.Ground.data }, { on := 40, ground := Go.Ground.chain }], guard := none }) (v := ?v31) rfl (by kernel_rfl) (by kernel_rfl) (by kernel_rfl) (fun _ _ _ h => h) (Or.inl ⟨by rfl, ?y31⟩) trivial ?r31
      case y31 => (intro w hSw; go_simp; try with_reducible rfl)
      try simp only [Act.put, List.setIfInBounds_toArray, List.set_cons_zero, List.set_cons_succ]
      refine wpAnyH_take (S := fun _ => True) (i := 43) (oi := { dst := some 176, op := Go.Op.move (Go.Operand.tmp 7), type := 25, pos := "law.go:84", after := #[{ on := 42, ground := Go.Ground.guard }], guard := some (42, true) }) (v := ?v32) rfl (by kernel_rfl) (by kernel_rfl) (by kernel_rfl) (fun _ _ _ h => h) (Or.inl ⟨by rfl, ?y32⟩) trivial ?r32
      case y32 => (intro w hSw; go_simp; try with_reducible rfl)
      try simp only [Act.put, List.setIfInBounds_toArray, List.set_cons_zero, List.set_cons_succ]
      refine wpAnyH_take (S := fun _ => True) (i := 46) (oi := { dst := some 179, op := Go.Op.move (Go.Operand.tmp 8), type := 27, pos := "law.go:84", after := #[{ on := 42, ground := Go.Ground.guard }], guard := some (42, true) }) (v := ?v33) rfl (by kernel_rfl) (by kernel_rfl) (by kernel_rfl) (fun _ _ _ h => h) (Or.inl ⟨by rfl, ?y33⟩) trivial ?r33
      case y33 => (intro w hSw; go_simp; try with_reducible rfl)
      try simp only [Act.put, List.setIfInBounds_toArray, List.set_cons_zero, List.set_cons_succ]
      refine wpAnyH_ready (rs := [44]) (by kernel_rfl) (by simp) ?_
      refine AllReadyH.cons (o := { dst := some 177, op := Go.Op.call { callee := Go.Callee.value (Go.Operand.func 20), args := #[Go.Operand.tmp 176, Go.Operand.const (Go.Value.string { data := #[] })], argTypes := #[25, 9] }, type := 47, pos := "law.go:84", after := #[{ on := 43, ground := Go.Ground.data }, { on := 42, ground := Go.Ground.chain }, { on := 42, ground := Go.Ground.guard }], guard := some (42, true) }) rfl (fun K hK => ?_) AllReadyH.nil
      go_simp
      (go_at_call 20; have Z := T33; (with_reducible refine (from_any _ w2.heap.size ⟨#[]⟩).mono ?_); rintro e w34 ⟨rfl, hE⟩; have E34 := Lib.hid hE; clear hE)
      refine hK.out _ _ trivial (fun _ => ?_)
      clear hK K
      try simp only [Act.put, List.setIfInBounds_toArray, List.set_cons_zero, List.set_cons_succ]
      refine wpAnyH_ready (rs := [45]) (by kernel_rfl) (by simp) ?_
      refine AllReadyH.cons (o := { dst := some 178, op := Go.Op.call { callee := Go.Callee.value (Go.Operand.func 19), args := #[Go.Operand.tmp 177, Go.Operand.const (Go.Value.int Go.IntKind.i64 200)], argTypes := #[47, 3] }, type := 27, pos := "law.go:84", after := #[{ on := 44, ground := Go.Ground.data }, { on := 44, ground := Go.Ground.chain }, { on := 42, ground := Go.Ground.guard }], guard := some (42, true) }) rfl (fun K hK => ?_) AllReadyH.nil
      go_simp
      (go_at_call 19; have Z := E34; (first | (with_reducible refine (rowFromH T33.out.lst ⟨#[]⟩ 200 (by omega) (mi := 200) rfl E34.out).mono ?_) | refine (rowFromH T33.out.lst ⟨#[]⟩ 200 (by omega) (mi := 200) rfl E34.out).mono ?_); rintro e w35 ⟨v35, rfl, ho, ⟨st35, hL⟩, hM⟩; rw [HP2.out] at ho; have hbE := al2 E34; have TT := ps_below T33.out hbE; have T35 := Lib.hid (ps_moves TT hL hM); have R35 := Lib.hid (kr_new TT (prat_of_owns ho).1 (fun g hg => (own_low ho (Nat.le_refl _) g hg).1)); have U35 := Lib.hid (kr_only (kr_below U33.out hbE) hM.only); have D35 := Lib.hid (kr_only (kr_below D33.out hbE) hM.only); clear ho hL hM hbE TT)
      refine hK.out _ _ trivial (fun _ => ?_)
      clear hK K
      try simp only [Act.put, List.setIfInBounds_toArray, List.set_cons_zero, List.set_cons_succ]
      try clear T33
      try clear U33
      try clear D33
      try clear E34
      refine wpAnyH_ready (rs := [47]) (by kernel_rfl) (by simp) ?_
      refine AllReadyH.cons (o := { dst := some 180, op := Go.Op.call { callee := Go.Callee.value (Go.Operand.func 18), args := #[Go.Operand.tmp 178, Go.Operand.tmp 179], argTypes := #[27, 27] }, type := 4, pos := "law.go:84", after := #[{ on := 45, ground := Go.Ground.data }, { on := 46, ground := Go.Ground.data }, { on := 45, ground := Go.Ground.chain }, { on := 42, ground := Go.Ground.guard }], guard := some (42, true) }) rfl (fun K hK => ?_) AllReadyH.nil
      go_simp
      (go_at_call 18; have Z := R35; (with_reducible refine (same_pr (kr_at R35.out) T35.out.row HPl.out).mono ?_); rintro e w36 ⟨rfl, hb⟩; have T36 := Lib.hid (ps_below T35.out hb); have U36 := Lib.hid (kr_below U35.out hb); have D36 := Lib.hid (kr_below D35.out hb); have E36 := hmap_look T36.out.map (s := key) (by unfold maxLen; omega); rw [← (hag.out key).1] at E36; clear hb)
      refine hK.out _ _ trivial (fun _ => ?_)
      clear hK K
      try simp only [Act.put, List.setIfInBounds_toArray, List.set_cons_zero, List.set_cons_succ]
      try clear R35
      try clear T35
      try clear U35
      try clear D35
      refine wpAnyH_take (S := fun _ => True) (i := 48) (oi := { dst := some 181, op := Go.Op.pick (Go.Operand.tmp 175) (Go.Operand.tmp 180) (Go.Operand.const (Go.Value.bool false)), type := 4, pos := "law.go:84", after := #[{ on := 42, ground := Go.Ground.data }, { on := 47, ground := Go.Ground.data }], guard := none }) (v := ?v34) rfl (by kernel_rfl) (by kernel_rfl) (by kernel_rfl) (fun _ _ _ h => h) (Or.inl ⟨by rfl, ?y34⟩) trivial ?r34
      case y34 => (intro w hSw; go_simp; try with_reducible rfl)
      try simp only [Act.put, List.setIfInBounds_toArray, List.set_cons_zero, List.set_cons_succ]
      refine wpAnyH_take (S := fun _ => True) (i := 49) (oi := { dst := some 182, op := Go.Op.move (Go.Operand.tmp 181), type := 4, pos := "law.go:84", after := #[{ on := 48, ground := Go.Ground.data }, { on := 47, ground := Go.Ground.chain }], guard := none }) (v := ?v35) rfl (by kernel_rfl) (by kernel_rfl) (by kernel_rfl) (fun _ _ _ h => h) (Or.inl ⟨by rfl, ?y35⟩) trivial ?r35
      case y35 => (intro w hSw; go_simp; try with_reducible rfl)
      try simp only [Act.put, List.setIfInBounds_toArray, List.set_cons_zero, List.set_cons_succ]
      refine wpAnyH_take (S := fun _ => True) (i := 50) (oi := { dst := some 183, op := Go.Op.move (Go.Operand.tmp 7), type := 25, pos := "law.go:84", after := #[{ on := 49, ground := Go.Ground.guard }], guard := some (49, true) }) (v := ?v36) rfl (by kernel_rfl) (by kernel_rfl) (by kernel_rfl) (fun _ _ _ h => h) (Or.inl ⟨by rfl, ?y36⟩) trivial ?r36
      case y36 => (intro w hSw; go_simp; try with_reducible rfl)
      try simp only [Act.put, List.setIfInBounds_toArray, List.set_cons_zero, List.set_cons_succ]
      refine wpAnyH_take (S := fun _ => True) (i := 51) (oi := { dst := some 184, op := Go.Op.move (Go.Operand.tmp 1), type := 9, pos := "law.go:84", after := #[{ on := 49, ground := Go.Ground.guard }], guard := some (49, true) }) (v := ?v37) rfl (by kernel_rfl) (by kernel_rfl) (by kernel_rfl) (fun _ _ _ h => h) (Or.inl ⟨by rfl, ?y37⟩) trivial ?r37
      case y37 => (intro w hSw; go_simp; try with_reducible rfl)
      try simp only [Act.put, List.setIfInBounds_toArray, List.set_cons_zero, List.set_cons_succ]
      refine wpAnyH_take (S := fun _ => True) (i := 53) (oi := { dst := some 186, op := Go.Op.move (Go.Operand.tmp 9), type := 28, pos := "law.go:84", after := #[{ on := 49, ground := Go.Ground.guard }], guard := some (49, true) }) (v := ?v38) rfl (by kernel_rfl) (by kernel_rfl) (by kernel_rfl) (fun _ _ _ h => h) (Or.inl ⟨by rfl, ?y38⟩) trivial ?r38
      case y38 => (intro w hSw; go_simp; try with_reducible rfl)
      try simp only [Act.put, List.setIfInBounds_toArray, List.set_cons_zero, List.set_cons_succ]
      refine wpAnyH_take (S := fun _ => True) (i := 54) (oi := { dst := some 187, op := Go.Op.move (Go.Operand.tmp 1), type := 9, pos := "law.go:84", after := #[{ on := 49, ground := Go.Ground.guard }], guard := some (49, true) }) (v := ?v39) rfl (by kernel_rfl) (by kernel_rfl) (by kernel_rfl) (fun _ _ _ h => h) (Or.inl ⟨by rfl, ?y39⟩) trivial ?r39
      case y39 => (intro w hSw; go_simp; try with_reducible rfl)
      try simp only [Act.put, List.setIfInBounds_toArray, List.set_cons_zero, List.set_cons_succ]
      refine wpAnyH_ready (rs := [52, 55]) (by kernel_rfl) (by simp) ?_
      refine AllReadyH.cons (o := { dst := some 185, op := Go.Op.call { callee := Go.Callee.value (Go.Operand.func 15), args := #[Go.Operand.tmp 183, Go.Operand.tmp 184], argTypes := #[25, 9] }, type := 3, pos := "law.go:84", after := #[{ on := 50, ground := Go.Ground.data }, { on := 51, ground := Go.Ground.data }, { on := 49, ground := Go.Ground.chain }, { on := 49, ground := Go.Ground.guard }], guard := some (49, true) }) rfl (fun K hK => ?_) (AllReadyH.cons (o := { dst := some 188, op := Go.Op.lookup 28 (Go.Operand.tmp 186) (Go.Operand.tmp 187) false, type := 3, pos := "law.go:84", after := #[{ on := 53, ground := Go.Ground.data }, { on := 54, ground := Go.Ground.data }, { on := 49, ground := Go.Ground.guard }], guard := some (49, true) }) rfl (fun K hK => ?_) AllReadyH.nil)
      · skip
        go_simp
        (go_at_call 15; have Z := T36; (with_reducible refine (heightH_any T36.out.lst key).mono ?_); rintro e w37 ⟨rfl, hb⟩; have T37 := Lib.hid (ps_below T36.out hb); have E37 := hmap_look T37.out.map (s := key) (by unfold maxLen; omega); rw [← (hag.out key).1] at E37; clear hb)
        refine hK.out _ _ trivial (fun _ => ?_)
        clear hK K
        try simp only [Act.put, List.setIfInBounds_toArray, List.set_cons_zero, List.set_cons_succ]
        refine wpAnyH_ready (rs := [55]) (by kernel_rfl) (by simp) ?_
        refine AllReadyH.cons (o := { dst := some 188, op := Go.Op.lookup 28 (Go.Operand.tmp 186) (Go.Operand.tmp 187) false, type := 3, pos := "law.go:84", after := #[{ on := 53, ground := Go.Ground.data }, { on := 54, ground := Go.Ground.data }, { on := 49, ground := Go.Ground.guard }], guard := some (49, true) }) rfl (fun K hK => ?_) AllReadyH.nil
        go_simp
        refine hK.out _ _ trivial (fun _ => ?_)
        clear hK K
        try simp only [Act.put, List.setIfInBounds_toArray, List.set_cons_zero, List.set_cons_succ]
        refine wpAnyH_take (S := fun _ => True) (i := 56) (oi := { dst := some 189, op := Go.Op.binOp Go.BinOp.eql 3 (Go.Operand.tmp 185) (Go.Operand.tmp 188) 3, type := 4, pos := "law.go:84", after := #[{ on := 52, ground := Go.Ground.data }, { on := 55, ground := Go.Ground.data }, { on := 49, ground := Go.Ground.guard }], guard := some (49, true) }) (v := ?v40) rfl (by kernel_rfl) (by kernel_rfl) (by kernel_rfl) (fun _ _ _ h => h) (Or.inl ⟨by rfl, ?y40⟩) trivial ?r40
        case y40 => (intro w hSw; go_simp; try with_reducible rfl)
        try simp only [Act.put, List.setIfInBounds_toArray, List.set_cons_zero, List.set_cons_succ]
        refine wpAnyH_take (S := fun _ => True) (i := 57) (oi := { dst := some 190, op := Go.Op.pick (Go.Operand.tmp 182) (Go.Operand.tmp 189) (Go.Operand.const (Go.Value.bool false)), type := 4, pos := "law.go:84", after := #[{ on := 49, ground := Go.Ground.data }, { on := 56, ground := Go.Ground.data }], guard := none }) (v := ?v41) rfl (by kernel_rfl) (by kernel_rfl) (by kernel_rfl) (fun _ _ _ h => h) (Or.inl ⟨by rfl, ?y41⟩) trivial ?r41
        case y41 => (intro w hSw; go_simp; try with_reducible rfl)
        try simp only [Act.put, List.setIfInBounds_toArray, List.set_cons_zero, List.set_cons_succ]
        refine wpAnyH_take (S := fun _ => True) (i := 58) (oi := { dst := some 6, op := Go.Op.assign (Go.Operand.tmp 190), type := 4, pos := "law.go:84", after := #[{ on := 57, ground := Go.Ground.data }, { on := 52, ground := Go.Ground.chain }, { on := 0, ground := Go.Ground.phase }, { on := 1, ground := Go.Ground.phase }, { on := 2, ground := Go.Ground.phase }, { on := 3, ground := Go.Ground.phase }, { on := 4, ground := Go.Ground.phase }, { on := 5, ground := Go.Ground.phase }, { on := 6, ground := Go.Ground.phase }, { on := 7, ground := Go.Ground.phase }, { on := 8, ground := Go.Ground.phase }, { on := 9, ground := Go.Ground.phase }, { on := 10, ground := Go.Ground.phase }, { on := 11, ground := Go.Ground.phase }, { on := 12, ground := Go.Ground.phase }, { on := 13, ground := Go.Ground.phase }, { on := 14, ground := Go.Ground.phase }, { on := 15, ground := Go.Ground.phase }, { on := 16, ground := Go.Ground.phase }, { on := 17, ground := Go.Ground.phase }, { on := 18, ground := Go.Ground.phase }, { on := 19, ground := Go.Ground.phase }, { on := 20, ground := Go.Ground.phase }, { on := 21, ground := Go.Ground.phase }, { on := 22, ground := Go.Ground.phase }, { on := 23, ground := Go.Ground.phase }, { on := 24, ground := Go.Ground.phase }, { on := 25, ground := Go.Ground.phase }, { on := 26, ground := Go.Ground.phase }, { on := 27, ground := Go.Ground.phase }, { on := 28, ground := Go.Ground.phase }, { on := 29, ground := Go.Ground.phase }, { on := 30, ground := Go.Ground.phase }, { on := 31, ground := Go.Ground.phase }, { on := 32, ground := Go.Ground.phase }, { on := 33, ground := Go.Ground.phase }, { on := 34, ground := Go.Ground.phase }, { on := 35, ground := Go.Ground.phase }, { on := 36, ground := Go.Ground.phase }, { on := 37, ground := Go.Ground.phase }, { on := 38, ground := Go.Ground.phase }, { on := 39, ground := Go.Ground.phase }, { on := 40, ground := Go.Ground.phase }, { on := 41, ground := Go.Ground.phase }, { on := 42, ground := Go.Ground.phase }, { on := 43, ground := Go.Ground.phase }, { on := 44, ground := Go.Ground.phase }, { on := 45, ground := Go.Ground.phase }, { on := 46, ground := Go.Ground.phase }, { on := 47, ground := Go.Ground.phase }, { on := 48, ground := Go.Ground.phase }, { on := 49, ground := Go.Ground.phase }, { on := 50, ground := Go.Ground.phase }, { on := 51, ground := Go.Ground.phase }, { on := 52, ground := Go.Ground.phase }, { on := 53, ground := Go.Ground.phase }, { on := 54, ground := Go.Ground.phase }, { on := 55, ground := Go.Ground.phase }, { on := 56, ground := Go.Ground.phase }, { on := 57, ground := Go.Ground.phase }], guard := none }) (v := ?v42) rfl (by kernel_rfl) (by kernel_rfl) (by kernel_rfl) (fun _ _ _ h => h) (Or.inl ⟨by rfl, ?y42⟩) trivial ?r42
        case y42 => (intro w hSw; go_simp; try with_reducible rfl)
        try simp only [Act.put, List.setIfInBounds_toArray, List.set_cons_zero, List.set_cons_succ]
        refine wpAnyH_done (by kernel_rfl) ?_ _
        refine NoPanic.normal ?_
        go_wp2
        go_ret
        exact ⟨rfl, T37.out.below⟩
      · skip
        go_simp
        refine hK.out _ _ trivial (fun _ => ?_)
        clear hK K
        try simp only [Act.put, List.setIfInBounds_toArray, List.set_cons_zero, List.set_cons_succ]
        refine wpAnyH_ready (rs := [52]) (by kernel_rfl) (by simp) ?_
        refine AllReadyH.cons (o := { dst := some 185, op := Go.Op.call { callee := Go.Callee.value (Go.Operand.func 15), args := #[Go.Operand.tmp 183, Go.Operand.tmp 184], argTypes := #[25, 9] }, type := 3, pos := "law.go:84", after := #[{ on := 50, ground := Go.Ground.data }, { on := 51, ground := Go.Ground.data }, { on := 49, ground := Go.Ground.chain }, { on := 49, ground := Go.Ground.guard }], guard := some (49, true) }) rfl (fun K hK => ?_) AllReadyH.nil
        go_simp
        (go_at_call 15; have Z := T36; (with_reducible refine (heightH_any T36.out.lst key).mono ?_); rintro e w37 ⟨rfl, hb⟩; have T37 := Lib.hid (ps_below T36.out hb); have E37 := hmap_look T37.out.map (s := key) (by unfold maxLen; omega); rw [← (hag.out key).1] at E37; clear hb)
        refine hK.out _ _ trivial (fun _ => ?_)
        clear hK K
        try simp only [Act.put, List.setIfInBounds_toArray, List.set_cons_zero, List.set_cons_succ]
        refine wpAnyH_take (S := fun _ => True) (i := 56) (oi := { dst := some 189, op := Go.Op.binOp Go.BinOp.eql 3 (Go.Operand.tmp 185) (Go.Operand.tmp 188) 3, type := 4, pos := "law.go:84", after := #[{ on := 52, ground := Go.Ground.data }, { on := 55, ground := Go.Ground.data }, { on := 49, ground := Go.Ground.guard }], guard := some (49, true) }) (v := ?v43) rfl (by kernel_rfl) (by kernel_rfl) (by kernel_rfl) (fun _ _ _ h => h) (Or.inl ⟨by rfl, ?y43⟩) trivial ?r43
        case y43 => (intro w hSw; go_simp; try with_reducible rfl)
        try simp only [Act.put, List.setIfInBounds_toArray, List.set_cons_zero, List.set_cons_succ]
        refine wpAnyH_take (S := fun _ => True) (i := 57) (oi := { dst := some 190, op := Go.Op.pick (Go.Operand.tmp 182) (Go.Operand.tmp 189) (Go.Operand.const (Go.Value.bool false)), type := 4, pos := "law.go:84", after := #[{ on := 49, ground := Go.Ground.data }, { on := 56, ground := Go.Ground.data }], guard := none }) (v := ?v44) rfl (by kernel_rfl) (by kernel_rfl) (by kernel_rfl) (fun _ _ _ h => h) (Or.inl ⟨by rfl, ?y44⟩) trivial ?r44
        case y44 => (intro w hSw; go_simp; try with_reducible rfl)
        try simp only [Act.put, List.setIfInBounds_toArray, List.set_cons_zero, List.set_cons_succ]
        refine wpAnyH_take (S := fun _ => True) (i := 58) (oi := { dst := some 6, op := Go.Op.assign (Go.Operand.tmp 190), type := 4, pos := "law.go:84", after := #[{ on := 57, ground := Go.Ground.data }, { on := 52, ground := Go.Ground.chain }, { on := 0, ground := Go.Ground.phase }, { on := 1, ground := Go.Ground.phase }, { on := 2, ground := Go.Ground.phase }, { on := 3, ground := Go.Ground.phase }, { on := 4, ground := Go.Ground.phase }, { on := 5, ground := Go.Ground.phase }, { on := 6, ground := Go.Ground.phase }, { on := 7, ground := Go.Ground.phase }, { on := 8, ground := Go.Ground.phase }, { on := 9, ground := Go.Ground.phase }, { on := 10, ground := Go.Ground.phase }, { on := 11, ground := Go.Ground.phase }, { on := 12, ground := Go.Ground.phase }, { on := 13, ground := Go.Ground.phase }, { on := 14, ground := Go.Ground.phase }, { on := 15, ground := Go.Ground.phase }, { on := 16, ground := Go.Ground.phase }, { on := 17, ground := Go.Ground.phase }, { on := 18, ground := Go.Ground.phase }, { on := 19, ground := Go.Ground.phase }, { on := 20, ground := Go.Ground.phase }, { on := 21, ground := Go.Ground.phase }, { on := 22, ground := Go.Ground.phase }, { on := 23, ground := Go.Ground.phase }, { on := 24, ground := Go.Ground.phase }, { on := 25, ground := Go.Ground.phase }, { on := 26, ground := Go.Ground.phase }, { on := 27, ground := Go.Ground.phase }, { on := 28, ground := Go.Ground.phase }, { on := 29, ground := Go.Ground.phase }, { on := 30, ground := Go.Ground.phase }, { on := 31, ground := Go.Ground.phase }, { on := 32, ground := Go.Ground.phase }, { on := 33, ground := Go.Ground.phase }, { on := 34, ground := Go.Ground.phase }, { on := 35, ground := Go.Ground.phase }, { on := 36, ground := Go.Ground.phase }, { on := 37, ground := Go.Ground.phase }, { on := 38, ground := Go.Ground.phase }, { on := 39, ground := Go.Ground.phase }, { on := 40, ground := Go.Ground.phase }, { on := 41, ground := Go.Ground.phase }, { on := 42, ground := Go.Ground.phase }, { on := 43, ground := Go.Ground.phase }, { on := 44, ground := Go.Ground.phase }, { on := 45, ground := Go.Ground.phase }, { on := 46, ground := Go.Ground.phase }, { on := 47, ground := Go.Ground.phase }, { on := 48, ground := Go.Ground.phase }, { on := 49, ground := Go.Ground.phase }, { on := 50, ground := Go.Ground.phase }, { on := 51, ground := Go.Ground.phase }, { on := 52, ground := Go.Ground.phase }, { on := 53, ground := Go.Ground.phase }, { on := 54, ground := Go.Ground.phase }, { on := 55, ground := Go.Ground.phase }, { on := 56, ground := Go.Ground.phase }, { on := 57, ground := Go.Ground.phase }], guard := none }) (v := ?v45) rfl (by kernel_rfl) (by kernel_rfl) (by kernel_rfl) (fun _ _ _ h => h) (Or.inl ⟨by rfl, ?y45⟩) trivial ?r45
        case y45 => (intro w hSw; go_simp; try with_reducible rfl)
        try simp only [Act.put, List.setIfInBounds_toArray, List.set_cons_zero, List.set_cons_succ]
        refine wpAnyH_done (by kernel_rfl) ?_ _
        refine NoPanic.normal ?_
        go_wp2
        go_ret
        exact ⟨rfl, T37.out.below⟩
end Go.Proofs.Ytnnjbofkkaonoaa.Sk
