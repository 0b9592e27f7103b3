/-
  An act done by both disks: Do. Conditions: as each theorem states.
-/
import Derived.Test.YtpeobjnamflibaaDkPf
namespace Go.Proofs.Ytpeobjnamflibaa.Dk
open Go.RowKit Go.Maps
section
variable {w w2 : World} {d m q : Nat} {v : Value} {L : List Ent} {R : List RFile} {S : Sta} {n : Int} {base : Nat}
/-- both disks stand in memory from base on -/
structure Lo (base d m : Nat) (L : List Ent) (q : Nat) (v : Value) : Prop where
  p : ∀ k ∈ feet d m L, base ≤ k
  r : ∀ k ∈ rfeet q v, base ≤ k
/-- an act behind: both disks are of one mind still -/
def DoPost (base d m q : Nat) (n : Int) (w : World) (r : Ending) (w' : World) : Prop :=
  r = .returned (.bool true) ∧ ∃ L2 v2 R2 S2, Bo w' d m L2 q v2 R2 S2 ∧ Ok S2 (n + 1) ∧ Lo base d m L2 q v2 ∧ Below base w w'
/-- how an act's number is told -/
def actNo (k : Int) : Int := if k.tmod 10 < 0 then -(k.tmod 10) else k.tmod 10
theorem act_le (k : Int) : 0 ≤ actNo k ∧ actNo k ≤ 9 ∧ -9 ≤ k.tmod 10 ∧ k.tmod 10 ≤ 9 := by
  have h1 := Int.natAbs_tmod k 10
  have h2 : (k.tmod 10).natAbs ≤ 9 := by rw [h1]; have := Nat.mod_lt k.natAbs (show 0 < 10 by decide); show k.natAbs % 10 ≤ 9; omega
  unfold actNo
  split <;> omega
theorem light_le {x : DAct} (h : x.light = true) : x.a.size ≤ 100 ∧ x.b.size ≤ 100 ∧ x.s.size ≤ 3000 ∧ x.fl ≤ 300 := by
  unfold DAct.light at h
  simp only [Bool.and_eq_true, decide_eq_true_eq] at h
  omega
theorem do_end {wd w1 w2 : World} {S2 : Sta} {L2 : List Ent} {v2 : Value} {R2 : List RFile} (hlo : Lo base d m L q v) (hw : Below base w wd) (hb : base ≤ wd.heap.size) (hOk : Ok S2 (n + 1))
    (h1 : Pa w1 d m L2 q v R S2.room S2.steps S2.fuse S2.fault S2.down S.room S.steps S.fuse S.fault S.down ∧ DA w1 d m L2 S2 ∧ Moves wd (feet d m L) w1 (feet d m L2))
    (h2 : RA w2 q v2 R2 S2 ∧ Moves w1 (rfeet q v) w2 (rfeet q v2)) : DoPost base d m q n w (.returned (.bool true)) w2 :=
  ⟨rfl, L2, v2, R2, S2, ⟨pa_ref h1.1 h2.1.1 h2.2, h1.2.1.2, h2.1.2⟩, hOk, ⟨h1.2.2.low hlo.p hb, h2.2.low hlo.r (Nat.le_trans hb h1.2.2.only.size)⟩,
    (hw.trans (h1.2.2.below hlo.p hb)).trans (h2.2.below hlo.r (Nat.le_trans hb h1.2.2.only.size))⟩
theorem ref_set3 (h : RA w q v R S) (y : Int) : RA (w.setCell ⟨q, 3, none⟩ (.int .i64 y)) q v R { S with fuse := y } ∧ Moves w (rfeet q v) (w.setCell ⟨q, 3, none⟩ (.int .i64 y)) (rfeet q v) :=
  have ht := h.1.turn (heap_set h.1.ref 3 (.int .i64 y)) (grown_set w q 3 _)
  ⟨⟨ht.1, h.2⟩, ht.2⟩
theorem ref_set4 (h : RA w q v R S) (y : Int) : RA (w.setCell ⟨q, 4, none⟩ (.int .i64 y)) q v R { S with fault := y } ∧ Moves w (rfeet q v) (w.setCell ⟨q, 4, none⟩ (.int .i64 y)) (rfeet q v) :=
  have ht := h.1.turn (heap_set h.1.ref 4 (.int .i64 y)) (grown_set w q 4 _)
  ⟨⟨ht.1, h.2⟩, ht.2⟩
theorem ref_set1 (h : RA w q v R S) (y : Int) : RA (w.setCell ⟨q, 1, none⟩ (.int .i64 y)) q v R { S with room := y } ∧ Moves w (rfeet q v) (w.setCell ⟨q, 1, none⟩ (.int .i64 y)) (rfeet q v) :=
  have ht := h.1.turn (heap_set h.1.ref 1 (.int .i64 y)) (grown_set w q 1 _)
  ⟨⟨ht.1, h.2⟩, ht.2⟩
theorem fates_below {w w2 : World} {fv : Value} {fates : List FateS} (h : FatesAt w fv fates) (hb : 0 < fates.length → ∀ a n c, fv = .slice (some a) n c → a.block < base) (hw : Below base w w2) : FatesAt w2 fv fates :=
  ⟨h.val, fun h0 => by
    obtain ⟨a, c, hv, hc⟩ := h.cells h0
    have hlt := hb h0 _ _ _ hv
    refine ⟨a, c, hv, fun i f hf => ?_⟩
    rw [← add_block a (i * 3)] at hlt
    obtain ⟨c0, c1, c2⟩ := hc i f hf
    exact ⟨(hw.cell (p := a.add (i * 3)) hlt).trans c0, (hw.cell (p := ⟨(a.add (i * 3)).block, (a.add (i * 3)).off + 1, none⟩) hlt).trans c1, (hw.cell (p := ⟨(a.add (i * 3)).block, (a.add (i * 3)).off + 2, none⟩) hlt).trans c2⟩⟩
/-- the box of an act -/
def Box5 (nb : Nat) (a b s : ByteArray) (num : Int) (fv : Value) (W : World) : Prop :=
  W.cell? ⟨nb, 1, none⟩ = some (.string a) ∧ W.cell? ⟨nb, 2, none⟩ = some (.string b) ∧ W.cell? ⟨nb, 3, none⟩ = some (.string s) ∧ W.cell? ⟨nb, 4, none⟩ = some (.int .i64 num) ∧ W.cell? ⟨nb, 5, none⟩ = some fv
theorem Box5.only {nb : Nat} {a b s : ByteArray} {num : Int} {fv : Value} {W W' : World} {fp : List Nat} (h : Box5 nb a b s num fv W) (ho : Only fp W W') (hlt : nb < W.heap.size) (hn : ∀ i ∈ fp, i ≠ nb) : Box5 nb a b s num fv W' := by
  have hh := ho.block nb hlt (fun hm => hn nb hm rfl)
  have key : ∀ j, W'.cell? ⟨nb, j, none⟩ = W.cell? ⟨nb, j, none⟩ := fun j => by unfold World.cell?; simp only [hh]
  obtain ⟨h1, h2, h3, h4, h5⟩ := h
  exact ⟨(key 1).trans h1, (key 2).trans h2, (key 3).trans h3, (key 4).trans h4, (key 5).trans h5⟩
set_option maxRecDepth 100000 in
set_option maxHeartbeats 4000000 in
theorem do_any (h : Bo w d m L q v R S) (hk : Ok S n) (hn : n ≤ 1000) (hlo : Lo base d m L q v) (hbase : base ≤ w.heap.size) (x : DAct) (hx : x.light = true) (hnum : x.n ≤ 9223372036854775807)
    (fates : List FateS) (hfa : FatesAt w (.slice x.fa x.fl x.fc) fates) (hfb : 0 < fates.length → ∀ a n c, Value.slice x.fa x.fl x.fc = .slice (some a) n c → a.block < base) :
    Calls Try.prog 8 #[.pointer (some ⟨d, 0, none⟩), .pointer (some ⟨q, 0, none⟩), .agg x.cells] w (DoPost base d m q n w) := by
  have HFA := Lib.hid (And.intro hfa hfb)
  clear hfa hfb
  obtain ⟨k, a, b, s, num, fa, fl, fc⟩ := x
  change num ≤ _ at hnum
  obtain ⟨ha0, ha1, ha2, ha3⟩ := act_le k
  obtain ⟨M, hM⟩ : ∃ M, actNo k = M := ⟨_, rfl⟩
  obtain ⟨r, hr⟩ : ∃ r, k.tmod 10 = r := ⟨_, rfl⟩
  rw [hM] at ha0 ha1
  have hMr : M = if r < 0 then -r else r := by rw [← hM, ← hr]; rfl
  rw [hr] at ha2 ha3
  clear hM
  have HW := Lib.hid (show IntKind.i64.wrap r = r from IntWalk.i64_in _ (by omega))
  unfold DAct.cells
  go_enter Try.func8, Try.ntmps8
  go_upto_if 16 with fail
  have hB : Bo (w.alloc (Obj.cells #[Value.int IntKind.i64 k, Value.string a, Value.string b, Value.string s, Value.int IntKind.i64 num, Value.slice fa fl fc] 32)) d m L q v R S := h.below ((Below.refl _ _).alloc (Nat.le_refl _) _)
  have hc := World.cell?_alloc_new w #[Value.int IntKind.i64 k, Value.string a, Value.string b, Value.string s, Value.int IntKind.i64 num, Value.slice fa fl fc] 32
  have hsz : w.heap.size < (w.alloc (Obj.cells #[Value.int IntKind.i64 k, Value.string a, Value.string b, Value.string s, Value.int IntKind.i64 num, Value.slice fa fl fc] 32)).heap.size := by simp
  have hbw : Below w.heap.size w (w.alloc (Obj.cells #[Value.int IntKind.i64 k, Value.string a, Value.string b, Value.string s, Value.int IntKind.i64 num, Value.slice fa fl fc] 32)) := (Below.refl _ _).alloc (Nat.le_refl _) _
  have hfr : (∀ i ∈ feet d m L, i ≠ w.heap.size) ∧ (∀ i ∈ rfeet q v, i ≠ w.heap.size) := ⟨fun i hi => by have := h.pa.dk.lt i hi; omega, fun i hi => by have := h.pa.rf.lt i hi; omega⟩
  have hbox : Box5 w.heap.size a b s num (.slice fa fl fc) (w.alloc (Obj.cells #[Value.int IntKind.i64 k, Value.string a, Value.string b, Value.string s, Value.int IntKind.i64 num, Value.slice fa fl fc] 32)) := ⟨hc 1, hc 2, hc 3, hc 4, hc 5⟩
  clear hc
  generalize hW0 : (w.alloc (Obj.cells #[Value.int IntKind.i64 k, Value.string a, Value.string b, Value.string s, Value.int IntKind.i64 num, Value.slice fa fl fc] 32)) = W0 at *
  have hbn := hbase
  generalize w.heap.size = nb at *
  have HX := Lib.hid hx
  have HB := Lib.hid hB
  have HF := Lib.hid hfr
  have HBX := Lib.hid hbox
  have HBW := Lib.hid hbw
  clear hB hfr hbox hbw hx hW0 h
  go_cut [7, 17, 18] (fun s7 _ _ wx => s7 = .int .i64 M ∧ wx = W0)
  case first =>
    by_cases hneg : r < 0
    · rw [if_pos hneg] at hMr
      subst hMr
      go_wp2
      go_meet
      exact ⟨rfl, rfl⟩
    · rw [if_neg hneg] at hMr
      subst hMr
      go_wp2
      go_meet
      exact ⟨rfl, rfl⟩
  obtain ⟨rfl, rfl⟩ := hcut
  clear hMr HW hr ha2 ha3
  obtain ⟨la, lb, ls, lf⟩ := light_le HX.out
  change a.size ≤ 100 at la
  change b.size ≤ 100 at lb
  change s.size ≤ 3000 at ls
  change fl ≤ 300 at lf
  have HBWd := Lib.hid ((HBW.out.mono hbn).drew)
  have hbd : base ≤ wc.drew.heap.size := Nat.le_trans hbn (Nat.le_of_lt hsz)
  have HBd := Lib.hid (HB.out.below (Below.refl _ _).drew)
  have hsd : nb < wc.drew.heap.size := hsz
  have HBXd := Lib.hid (HBX.out.only (fp := []) (Only.of_below (Below.refl _ _).drew) hsz (by simp))
  rcases (by omega : M = 0 ∨ M = 1 ∨ M = 2 ∨ M = 3 ∨ M = 4 ∨ M = 5 ∨ M = 6 ∨ M = 7 ∨ M = 8 ∨ M = 9) with rfl | rfl | rfl | rfl | rfl | rfl | rfl | rfl | rfl | rfl
  · obtain ⟨code, S2, hOk, hP, hQ⟩ := append_two hk hn a s la ls
    have HPQ := Lib.hid (And.intro @hP @hQ)
    clear hP hQ
    obtain ⟨x1, x2, x3, x4, x5⟩ := HBXd.out
    go_wp2
    go_region_held3 (fun wx => wx.cell? ⟨nb, 1, none⟩ = some (.string a) ∧ wx.cell? ⟨nb, 3, none⟩ = some (.string s)) (first | go_keep | (have hkb := ‹Box5 _ _ _ _ _ _ _›; exact ⟨hkb.1, hkb.2.2.1⟩))
      (first
        | (go_at_call 11; refine (HPQ.out.1 HBd.out.da).mono ?_; rintro r w1 ⟨rfl, L2, hd1, hm1⟩
           have hb1 := HBXd.out.only hm1.only hsd HF.out.1
           have HP1 := Lib.hid (And.intro (pa_disk HBd.out.pa hd1.1 hm1) (And.intro hd1 hm1))
           have hs1 : nb < w1.heap.size := Nat.lt_of_lt_of_le hsd hm1.only.size
           clear hd1 hm1)
        | (go_at_call 26; refine (HPQ.out.2 HBd.out.da.nd ⟨HP1.out.1.rf, HBd.out.hR⟩).mono ?_; rintro r w2 ⟨rfl, v2, R2, hd2, hm2⟩
           have hb2 := hb1.only hm2.only hs1 HF.out.2
           have HP2 := Lib.hid (And.intro hd2 hm2)
           clear hb1 hd2 hm2))
    go_wp2
    go_ret
    exact do_end hlo HBWd.out hbd hOk HP1.out HP2.out
  · obtain ⟨code, S2, hOk, hP, hQ⟩ := create_two hk hn a la
    have HPQ := Lib.hid (And.intro @hP @hQ)
    clear hP hQ
    obtain ⟨x1, x2, x3, x4, x5⟩ := HBXd.out
    go_wp2
    go_region_held3 (fun wx => wx.cell? ⟨nb, 1, none⟩ = some (.string a)) (first | go_keep | (have hkb := ‹Box5 _ _ _ _ _ _ _›; exact hkb.1))
      (first
        | (go_at_call 10; refine (HPQ.out.1 HBd.out.da).mono ?_; rintro r w1 ⟨rfl, L2, hd1, hm1⟩
           have hb1 := HBXd.out.only hm1.only hsd HF.out.1
           have HP1 := Lib.hid (And.intro (pa_disk HBd.out.pa hd1.1 hm1) (And.intro hd1 hm1))
           have hs1 : nb < w1.heap.size := Nat.lt_of_lt_of_le hsd hm1.only.size
           clear hd1 hm1)
        | (go_at_call 14; refine (HPQ.out.2 HBd.out.da.nd ⟨HP1.out.1.rf, HBd.out.hR⟩).mono ?_; rintro r w2 ⟨rfl, v2, R2, hd2, hm2⟩
           have hb2 := hb1.only hm2.only hs1 HF.out.2
           have HP2 := Lib.hid (And.intro hd2 hm2)
           clear hb1 hd2 hm2))
    go_wp2
    go_ret
    exact do_end hlo HBWd.out hbd hOk HP1.out HP2.out
  · obtain ⟨code, S2, hOk, hP, hQ⟩ := sync_two hk hn a la
    have HPQ := Lib.hid (And.intro @hP @hQ)
    clear hP hQ
    obtain ⟨x1, x2, x3, x4, x5⟩ := HBXd.out
    go_wp2
    go_region_held3 (fun wx => wx.cell? ⟨nb, 1, none⟩ = some (.string a)) (first | go_keep | (have hkb := ‹Box5 _ _ _ _ _ _ _›; exact hkb.1))
      (first
        | (go_at_call 15; refine (HPQ.out.1 HBd.out.da).mono ?_; rintro r w1 ⟨rfl, L2, hd1, hm1⟩
           have hb1 := HBXd.out.only hm1.only hsd HF.out.1
           have HP1 := Lib.hid (And.intro (pa_disk HBd.out.pa hd1.1 hm1) (And.intro hd1 hm1))
           have hs1 : nb < w1.heap.size := Nat.lt_of_lt_of_le hsd hm1.only.size
           clear hd1 hm1)
        | (go_at_call 16; refine (HPQ.out.2 HBd.out.da.nd ⟨HP1.out.1.rf, HBd.out.hR⟩).mono ?_; rintro r w2 ⟨rfl, v2, R2, hd2, hm2⟩
           have hb2 := hb1.only hm2.only hs1 HF.out.2
           have HP2 := Lib.hid (And.intro hd2 hm2)
           clear hb1 hd2 hm2))
    go_wp2
    go_ret
    exact do_end hlo HBWd.out hbd hOk HP1.out HP2.out
  · obtain ⟨code, S2, hOk, hP, hQ⟩ := rename_two hk hn a b la lb
    have HPQ := Lib.hid (And.intro @hP @hQ)
    clear hP hQ
    obtain ⟨x1, x2, x3, x4, x5⟩ := HBXd.out
    go_wp2
    go_region_held3 (fun wx => wx.cell? ⟨nb, 1, none⟩ = some (.string a) ∧ wx.cell? ⟨nb, 2, none⟩ = some (.string b)) (first | go_keep | (have hkb := ‹Box5 _ _ _ _ _ _ _›; exact ⟨hkb.1, hkb.2.1⟩))
      (first
        | (go_at_call 17; refine (HPQ.out.1 HBd.out.da).mono ?_; rintro r w1 ⟨rfl, L2, hd1, hm1⟩
           have hb1 := HBXd.out.only hm1.only hsd HF.out.1
           have HP1 := Lib.hid (And.intro (pa_disk HBd.out.pa hd1.1 hm1) (And.intro hd1 hm1))
           have hs1 : nb < w1.heap.size := Nat.lt_of_lt_of_le hsd hm1.only.size
           clear hd1 hm1)
        | (go_at_call 18; refine (HPQ.out.2 HBd.out.da.nd ⟨HP1.out.1.rf, HBd.out.hR⟩).mono ?_; rintro r w2 ⟨rfl, v2, R2, hd2, hm2⟩
           have hb2 := hb1.only hm2.only hs1 HF.out.2
           have HP2 := Lib.hid (And.intro hd2 hm2)
           clear hb1 hd2 hm2))
    go_wp2
    go_ret
    exact do_end hlo HBWd.out hbd hOk HP1.out HP2.out
  · obtain ⟨code, S2, hOk, hP, hQ⟩ := delete_two hk hn a la
    have HPQ := Lib.hid (And.intro @hP @hQ)
    clear hP hQ
    obtain ⟨x1, x2, x3, x4, x5⟩ := HBXd.out
    go_wp2
    go_region_held3 (fun wx => wx.cell? ⟨nb, 1, none⟩ = some (.string a)) (first | go_keep | (have hkb := ‹Box5 _ _ _ _ _ _ _›; exact hkb.1))
      (first
        | (go_at_call 19; refine (HPQ.out.1 HBd.out.da).mono ?_; rintro r w1 ⟨rfl, L2, hd1, hm1⟩
           have hb1 := HBXd.out.only hm1.only hsd HF.out.1
           have HP1 := Lib.hid (And.intro (pa_disk HBd.out.pa hd1.1 hm1) (And.intro hd1 hm1))
           have hs1 : nb < w1.heap.size := Nat.lt_of_lt_of_le hsd hm1.only.size
           clear hd1 hm1)
        | (go_at_call 20; refine (HPQ.out.2 HBd.out.da.nd ⟨HP1.out.1.rf, HBd.out.hR⟩).mono ?_; rintro r w2 ⟨rfl, v2, R2, hd2, hm2⟩
           have hb2 := hb1.only hm2.only hs1 HF.out.2
           have HP2 := Lib.hid (And.intro hd2 hm2)
           clear hb1 hd2 hm2))
    go_wp2
    go_ret
    exact do_end hlo HBWd.out hbd hOk HP1.out HP2.out
  · obtain ⟨bs, code, hP, hQ⟩ := read_two S a (Lib.hid (by unfold maxLen; omega))
    have HPQ := Lib.hid (And.intro @hP @hQ)
    clear hP hQ
    obtain ⟨x1, x2, x3, x4, x5⟩ := HBX.out
    go_wp2_with (first
      | (go_at_call 12; refine (HPQ.out.1 HB.out.da).mono ?_; rintro r w1 ⟨rfl, rfl⟩)
      | (go_at_call 21; refine (HPQ.out.2 HB.out.ra).mono ?_; rintro r w2 ⟨rfl, hb2⟩))
    go_ret
    exact ⟨rfl, L, v, R, S, HB.out.below hb2, hk.same, hlo, (HBW.out.mono hbn).trans (hb2.mono (Nat.le_trans hbn (Nat.le_of_lt hsz)))⟩
  · obtain ⟨x1, x2, x3, x4, x5⟩ := HBX.out
    go_wp2_with (first
      | (go_at_call 22; refine (fuse_any HB.out.pa.dk num).mono ?_; rintro r w1 ⟨rfl, hd1, hm1⟩
         have hb1 := HBX.out.only hm1.only hsz HF.out.1
         have HP1 := Lib.hid (pa_disk HB.out.pa hd1 hm1)
         have HD1 := Lib.hid (And.intro hd1 hm1)
         have hs1 : nb < w1.heap.size := Nat.lt_of_lt_of_le hsz hm1.only.size
         obtain ⟨y1, y2, y3, y4, y5⟩ := hb1
         have hz1 : q < w1.heap.size := (Array.getElem?_eq_some_iff.1 HP1.out.rf.ref).1
         have hq1 := cell_in HP1.out.rf.ref 3 _ rfl
         have hq2 := free_in HP1.out.rf.ref 3
         clear hd1 hm1))
    go_ret
    have hr := ref_set3 ⟨HP1.out.rf, HB.out.hR⟩ (max num (-1))
    exact do_end hlo (HBW.out.mono hbn) (Nat.le_trans hbn (Nat.le_of_lt hsz)) (S2 := { S with fuse := max num (-1) }) ⟨hk.r0, hk.r1, hk.s0, by have := hk.s1; show S.steps ≤ _; omega, by show -1 ≤ max num (-1); omega, by show max num (-1) ≤ _; omega, hk.a0, hk.a1⟩ ⟨HP1.out, ⟨HD1.out.1, HB.out.hL⟩, HD1.out.2⟩ hr
  · obtain ⟨x1, x2, x3, x4, x5⟩ := HBX.out
    go_wp2_with (first
      | (go_at_call 23; refine (fault_any HB.out.pa.dk num).mono ?_; rintro r w1 ⟨rfl, hd1, hm1⟩
         have hb1 := HBX.out.only hm1.only hsz HF.out.1
         have HP1 := Lib.hid (pa_disk HB.out.pa hd1 hm1)
         have HD1 := Lib.hid (And.intro hd1 hm1)
         have hs1 : nb < w1.heap.size := Nat.lt_of_lt_of_le hsz hm1.only.size
         obtain ⟨y1, y2, y3, y4, y5⟩ := hb1
         have hz1 : q < w1.heap.size := (Array.getElem?_eq_some_iff.1 HP1.out.rf.ref).1
         have hq1 := cell_in HP1.out.rf.ref 4 _ rfl
         have hq2 := free_in HP1.out.rf.ref 4
         clear hd1 hm1))
    go_ret
    have hr := ref_set4 ⟨HP1.out.rf, HB.out.hR⟩ (max num (-1))
    exact do_end hlo (HBW.out.mono hbn) (Nat.le_trans hbn (Nat.le_of_lt hsz)) (S2 := { S with fault := max num (-1) }) ⟨hk.r0, hk.r1, hk.s0, by have := hk.s1; show S.steps ≤ _; omega, hk.f0, hk.f1, by show -1 ≤ max num (-1); omega, by show max num (-1) ≤ _; omega⟩ ⟨HP1.out, ⟨HD1.out.1, HB.out.hL⟩, HD1.out.2⟩ hr
  · obtain ⟨x1, x2, x3, x4, x5⟩ := HBX.out
    go_wp2_with (first
      | (go_at_call 24; refine (room_any HB.out.pa.dk num).mono ?_; rintro r w1 ⟨rfl, hd1, hm1⟩
         have hb1 := HBX.out.only hm1.only hsz HF.out.1
         have HP1 := Lib.hid (pa_disk HB.out.pa hd1 hm1)
         have HD1 := Lib.hid (And.intro hd1 hm1)
         have hs1 : nb < w1.heap.size := Nat.lt_of_lt_of_le hsz hm1.only.size
         obtain ⟨y1, y2, y3, y4, y5⟩ := hb1
         have hz1 : q < w1.heap.size := (Array.getElem?_eq_some_iff.1 HP1.out.rf.ref).1
         have hq1 := cell_in HP1.out.rf.ref 1 _ rfl
         have hq2 := free_in HP1.out.rf.ref 1
         clear hd1 hm1))
    go_ret
    have hr := ref_set1 ⟨HP1.out.rf, HB.out.hR⟩ (min (max num 0) 16777216)
    exact do_end hlo (HBW.out.mono hbn) (Nat.le_trans hbn (Nat.le_of_lt hsz)) (S2 := { S with room := min (max num 0) 16777216 }) ⟨by show 0 ≤ min (max num 0) 16777216; omega, by show min (max num 0) 16777216 ≤ _; omega, hk.s0, by have := hk.s1; show S.steps ≤ _; omega, hk.f0, hk.f1, hk.a0, hk.a1⟩ ⟨HP1.out, ⟨HD1.out.1, HB.out.hL⟩, HD1.out.2⟩ hr
  · have hfl : fates.length ≤ 9223372036854775807 := by
      obtain ⟨a', c', hv⟩ := HFA.out.1.val
      injection hv with _ h2 _
      change fl = fates.length at h2
      omega
    obtain ⟨T2, hP, hQ⟩ := crash_two (w := w) (d := d) (m := m) (q := q) (v := v) HB.out.hL HB.out.hR fates hfl
    have HPQ := Lib.hid (And.intro @hP @hQ)
    clear hP hQ
    obtain ⟨x1, x2, x3, x4, x5⟩ := HBX.out
    go_wp2_with (first
      | (go_at_call 13
         refine (HPQ.out.1 _ HB.out.da (fates_below HFA.out.1 HFA.out.2 (HBW.out.mono hbn)) (fun h0 a n c e => ⟨fun hm => absurd (hlo.p a.block hm) (by have := HFA.out.2 h0 a n c e; omega), by have := HFA.out.2 h0 a n c e; omega⟩)).mono ?_; rintro r w1 ⟨rfl, L2, hd1, hm1⟩
         have hb1 := HBX.out.only hm1.only hsz HF.out.1
         have HP1 := Lib.hid (And.intro (pa_disk HB.out.pa hd1.1 hm1) (And.intro hd1 hm1))
         have hs1 : nb < w1.heap.size := Nat.lt_of_lt_of_le hsz hm1.only.size
         have HBW1 := Lib.hid ((HBW.out.mono hbn).trans (hm1.below hlo.p (Nat.le_trans hbn (Nat.le_of_lt hsz))))
         obtain ⟨y1, y2, y3, y4, y5⟩ := hb1
         clear hd1 hm1)
      | (go_at_call 25
         refine (HPQ.out.2 _ HB.out.da.nd ⟨HP1.out.1.rf, HB.out.hR⟩ (fates_below HFA.out.1 HFA.out.2 HBW1.out) (fun h0 a n c e => ⟨fun hm => absurd (hlo.r a.block hm) (by have := HFA.out.2 h0 a n c e; omega), by have := HFA.out.2 h0 a n c e; omega⟩)).mono ?_; rintro r w2 ⟨rfl, v2, R2, hd2, hm2⟩
         have HP2 := Lib.hid (And.intro hd2 hm2)
         clear hd2 hm2))
    go_ret
    exact do_end hlo (HBW.out.mono hbn) (Nat.le_trans hbn (Nat.le_of_lt hsz)) (hk.crashed T2) HP1.out HP2.out
end
end Go.Proofs.Ytpeobjnamflibaa.Dk
