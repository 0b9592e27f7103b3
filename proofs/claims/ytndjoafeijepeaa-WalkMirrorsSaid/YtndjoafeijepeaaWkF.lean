/-
  The law WalkMirrors, walked. Conditions: as each theorem states.
-/
import Derived.Test.YtndjoafeijepeaaWkS
import Derived.Deep.DeepCutAuto
import Derived.Deep.CutRange
import Derived.Deep.RegionLawGrows
import Derived.OrdersHeld
import Derived.Deep.RegionHeld3
namespace Go.Proofs.Ytndjoafeijepeaa.Wk
open Go.RowKit Go.Shelf
open Go.Proofs.Ytndjoafeijepeaa
open Se Fl
attribute [local go_sem] run_store_float run_store_complex

theorem read_neg (b : Nat) : Ieee.double.read (b ^^^ 2 ^ 63) = (Ieee.double.read b).opposite := by
  have hsw : Ieee.double.signWeight = 2 ^ 63 := by decide
  have e1 : (b ^^^ 2 ^ 63) % 2 ^ 63 = b % 2 ^ 63 := by rw [Nat.xor_mod_two_pow, Nat.mod_self, Nat.xor_zero]
  have e2 : ((b ^^^ 2 ^ 63) / 2 ^ 63 % 2 == 1) = !(b / 2 ^ 63 % 2 == 1) := by
    rw [Nat.xor_div_two_pow, Nat.div_self (by decide), show (b / 2 ^ 63 ^^^ 1) % 2 = (b / 2 ^ 63 % 2) ^^^ 1 from Nat.xor_mod_two_pow (n := 1)]
    have : b / 2 ^ 63 % 2 = 0 ∨ b / 2 ^ 63 % 2 = 1 := by omega
    rcases this with h | h <;> rw [h] <;> rfl
  unfold Ieee.Format.read
  simp only [hsw, e1, e2]
  split
  · rfl
  · split
    · rfl
    · split <;> rfl
theorem fl_neg {b : Nat} {y : Int} (h : Fl b y) : Fl (Op.negFloat .f64 b) (-y) := by
  obtain ⟨s, m, p, e, hv⟩ := h
  exact ⟨!s, m, p, by rw [show Op.negFloat .f64 b = b ^^^ 2 ^ 63 from rfl, read_neg, e]; rfl, va_opposite hv⟩
@[local go_sem] theorem run_negf (b : Nat) (w : World) : (Op.unary .neg (.float .f64 b)).run Try.prog w = .ok (.float .f64 (Op.negFloat .f64 b)) w := rfl
theorem infoTrade : (Try.prog.info? 46).map (fun i => (i.zero, i.size, i.bytes)) = some (some (.agg #[.int .u64 0, .int .u64 0, .int .i64 0, .int .i64 0]), 4, 32) := by kernel_rfl
def lastP (l : List Trd) : Int := (l.getLastD ⟨0, 0, 0, 0⟩).price
section
variable {w W W2 : World} {t : Trd} {A A5 : Option Addr} {l lm : List Trd} {qa qb qc : Pw} {k9 k10 k11 : Nat}
theorem trow_two {o o' : Obj} (h : TRow W A l) : TRow ((W.alloc o).alloc o') A l := h.below (((Below.refl _ W).alloc (Nat.le_refl _) _).alloc (by simp) _)
theorem hp_two {o o' ob : Obj} {k : Nat} (h : W.heap[k]? = some ob) : ((W.alloc o).alloc o').heap[k]? = some ob := hp_on' h (((Below.refl _ W).alloc (Nat.le_refl _) _).alloc (by simp) _)
theorem below_two {o o' : Obj} (h : Below w.heap.size w W) : Below w.heap.size w ((W.alloc o).alloc o') := (h.alloc h.size _).alloc (by have := h.size; simp; omega) _
theorem hp_first (W : World) (c c' : Array Value) (T : TypeId) : ((W.alloc (.cells c T)).alloc (.cells c' T)).heap[W.heap.size]? = some (.cells c T (0, 0)) := (Below.heap_alloc _ _ _ (by simp)).trans (heap_alloc_last W _)
theorem hp_second (W : World) (c c' : Array Value) (T : TypeId) : ((W.alloc (.cells c T)).alloc (.cells c' T)).heap[W.heap.size + 1]? = some (.cells c' T (0, 0)) := by
  have := heap_alloc_last (W.alloc (.cells c T)) (.cells c' T); rwa [World.size_alloc] at this
/-- what lies there behind the three walks -/
structure ML (w : World) (t : Trd) (A A5 : Option Addr) (l lm : List Trd) (k9 k10 k11 : Nat) (qa qb qc : Pw) (W : World) : Prop where
  ra : TRow W A l
  rb : TRow W A5 lm
  tb : W.heap[w.heap.size]? = some (.cells #[.int .u64 t.maker, .int .u64 t.taker, .int .i64 t.price, .int .i64 t.size] 46 (0, 0))
  b9 : W.heap[k9]? = some (.cells (pcs qa) 26 (0, 0))
  b10 : W.heap[k10]? = some (.cells (pcs qb) 26 (0, 0))
  b11 : W.heap[k11]? = some (.cells (pcs qc) 26 (0, 0))
  below : Below w.heap.size w W
theorem ML.on (h : ML w t A A5 l lm k9 k10 k11 qa qb qc W) (hb : Below W.heap.size W W2) : ML w t A A5 l lm k9 k10 k11 qa qb qc W2 :=
  ⟨h.ra.below hb, h.rb.below hb, hp_on' h.tb hb, hp_on' h.b9 hb, hp_on' h.b10 hb, hp_on' h.b11 hb, h.below.trans (hb.mono h.below.size)⟩
theorem ml_start (ra : TRow W A l) (rb : TRow W A5 lm) (tb : W.heap[w.heap.size]? = some (.cells #[.int .u64 t.maker, .int .u64 t.taker, .int .i64 t.price, .int .i64 t.size] 46 (0, 0))) (bw : Below w.heap.size w W)
    (n9 : W.heap[k9]? = some (.cells (pcs qa) 26 (0, 0))) (n10 : W.heap[k10]? = some (.cells (pcs qb) 26 (0, 0))) (qc : Pw) : ML w t A A5 l lm k9 k10 W.heap.size qa qb qc (W.alloc (.cells (pcs qc) 26)) := by
  have hb : Below W.heap.size W (W.alloc (.cells (pcs qc) 26)) := (Below.refl _ W).alloc (Nat.le_refl _) _
  exact ⟨ra.below hb, rb.below hb, hp_on' tb hb, hp_on' n9 hb, hp_on' n10 hb, heap_alloc_last W _, bw.trans (hb.mono bw.size)⟩
end
/-- the rows under way -/
def MirJ (w : World) (t : Trd) (l : List Trd) (m s i : Value) (wr : World) : Prop :=
  ∃ k : Nat, k ≤ l.length ∧ i = .int .i64 k ∧ MS w t m s ((l.take k).map mirT) ((l.take k).map stillT) wr
theorem ms_start (w : World) (t : Trd) : MS w t (.slice none 0 0) (.slice none 0 0) [] [] (w.alloc (.cells #[.int .u64 t.maker, .int .u64 t.taker, .int .i64 t.price, .int .i64 t.size] 46)) :=
  ⟨heap_alloc_new w _, World.ownsRow_nil _ _ _ _, World.ownsRow_nil _ _ _ _, fun k h => by simp [Value.ownBlock] at h, (Below.refl _ w).alloc (Nat.le_refl _) _⟩
set_option maxHeartbeats 4000000 in
set_option maxRecDepth 100000 in
theorem mirrors_walk (A : Option Addr) (c : Nat) (l : List Trd) (t0 t1 t2 t3 : Int) (hl : l.length ≤ 100) (w : World) (RA : TRow w A l) (hA : A = none → l.length = 0 ∧ c = 0) (hc : l.length ≤ c) (hok : ∀ p ∈ l, p.ok) :
    Calls Try.prog 5 #[.slice A l.length c, .agg #[.int .u64 t0, .int .u64 t1, .int .i64 t2, .int .i64 t3]] w fun e w' => e = .returned (.bool true) ∧ Below w.heap.size w w' := by
  obtain ⟨i0, hi, hz0, hz1, hz2⟩ := info_parts infoTrade
  have HI := Lib.hid (And.intro hi (And.intro hz0 (And.intro hz1 hz2)))
  clear hi hz0 hz1 hz2
  have HRA := Lib.hid RA
  have HA := Lib.hid hA
  have HOK := Lib.hid hok
  have hlc : (l.length : Int) ≤ 100 := by omega
  clear RA hA hok
  have M0 := Lib.hid (ms_start w ⟨t0, t1, t2, t3⟩)
  simp only at M0
  go_enter Try.func5, Try.ntmps5
  go_wp2_with (go_at_call 6; (with_reducible refine (awake34_any _).mono ?_); rintro e w1 ⟨rfl, hb1⟩; have M1 := Lib.hid (M0.out.on hb1); clear hb1)
  go_loopw [5, 6, 22] (fun m s i wr => MirJ w ⟨t0, t1, t2, t3⟩ l m s i wr) (fun _ _ i _ => l.length - (intOf i).toNat)
  case atStart => exact ⟨0, by omega, rfl, M1.out⟩
  case round =>
    clear M0 M1
    obtain ⟨k, hk, rfl, hms⟩ := hrel
    have P := Lib.hid hms
    have hsz := hms.size
    clear hms
    by_cases h1 : k < l.length
    · obtain ⟨a, rfl, hab, hcl⟩ := HRA.out (by omega)
      have x := hcl k h1
      have hbl : (a.add (k * 4)).block < w.heap.size := by rw [block_add]; exact hab
      have ok := HOK.out l[k] (List.getElem_mem h1)
      have HTM : Hid ((l.take k).map mirT ++ [mirT l[k]] = (l.take (k + 1)).map mirT) := by rw [Hid, List.take_succ_eq_append_getElem h1, List.map_append]; rfl
      have HTS : Hid ((l.take k).map stillT ++ [stillT l[k]] = (l.take (k + 1)).map stillT) := by rw [Hid, List.take_succ_eq_append_getElem h1, List.map_append]; rfl
      have HLM : Hid (((l.take k).map mirT).length = k ∧ ((l.take k).map stillT).length = k) := by rw [Hid]; simp; omega
      clear hcl
      generalize l[k] = y at *
      obtain ⟨mk, tk, pr, sz⟩ := y
      obtain ⟨c0, c1, c2, c3⟩ := x
      obtain ⟨⟨o1, o2⟩, o3, o4⟩ := ok
      simp only at c0 c1 c2 c3 o1 o2 o3 o4 HTM HTS
      generalize hlm : (l.take k).map mirT = lm at *
      generalize hls : (l.take k).map stillT = ls at *
      have hkm := HLM.out
      have x0 := (P.out.below.cell (p := a.add (k * 4)) hbl).trans c0
      have x1 : wr.cell? ⟨(a.add (k * 4)).block, (a.add (k * 4)).off + 1, none⟩ = some (.int .u64 tk) := (P.out.below.cell (p := (a.add (k * 4)).add 1) (by rw [block_add]; exact hbl)).trans c1
      have x2 : wr.cell? ⟨(a.add (k * 4)).block, (a.add (k * 4)).off + 2, none⟩ = some (.int .i64 pr) := (P.out.below.cell (p := (a.add (k * 4)).add 2) (by rw [block_add]; exact hbl)).trans c2
      have x3 : wr.cell? ⟨(a.add (k * 4)).block, (a.add (k * 4)).off + 3, none⟩ = some (.int .i64 sz) := (P.out.below.cell (p := (a.add (k * 4)).add 3) (by rw [block_add]; exact hbl)).trans c3
      clear c0 c1 c2 c3 hlm hls
      obtain ⟨hkm, hks⟩ := hkm
      have HKM := Lib.hid hkm
      have HKS := Lib.hid hks
      clear hkm hks HLM
      by_cases hmin : pr = -9223372036854775808
      · subst hmin
        go_wp2
        go_ret
        exact ⟨rfl, P.out.below.alloc P.out.below.size _⟩
      · have mn : ∀ ts t W, (Builtin.min_ ts t #[.int .i64 sz, .int .i64 0]).run Try.prog W = .ok (.int .i64 (min sz 0)) W := fun ts t W => by
          rw [run_min_int2 W ts t .i64 .i64]; congr 2; split <;> omega
        go_wp2_with (first
          | (at_builtin
             refine wpList_append_lies _ rfl (.tmp 29) (.tmp 36) 22 rfl (w.heap.size + 1) 46 i0 _ 4 32 Try.underlying22 HI.out.1 HI.out.2.1 HI.out.2.2.1 HI.out.2.2.2 rfl (by decide) u5 lm.length (tCells lm) rfl ((P.out.owm.alloc _).alloc _) ⟨wr.heap.size + 1, 0, none⟩ 1 1 [.int .u64 0, .int .u64 0, .int .i64 (-pr), .int .i64 sz] rfl rfl (news_two_four wr _ _ _ _ _ _) (by simp [Value.oneCell']) (by omega) (by unfold maxLen; have := HKM.out; omega) (by have := HKM.out; omega) (by simp; omega) (wr.heap.size + 2) (by simp) ?_
             intro g cap w8 hown8 hgrow8 hwhere hlt8
             have P8 := Lib.hid (((P.out.alloc _).alloc _).putM (l2 := lm ++ [⟨0, 0, -pr, sz⟩]) hgrow8 (by rw [tCells_snoc, List.length_append]; exact hown8) (fun k hk => by
               rcases hwhere with e | e
               · left; rw [e]; exact hk
               · right; simp [Value.ownBlock] at hk; simp; omega))
             have b8 : w8.heap[wr.heap.size]? = some (.cells #[.int .u64 mk, .int .u64 tk, .int .i64 pr, .int .i64 sz] 46 (0, 0)) := (hgrow8.block _ (by simp; omega) (fun e => by have := (P.out.owm.lt _ e.symm).2; omega)).trans ((Below.heap_alloc _ _ _ (by simp)).trans (heap_alloc_last wr _))
             have D2 := (cells_in b8 2 rfl).1
             have D3 := (cells_in b8 3 rfl).1
             clear hown8 hgrow8 hwhere b8)
          | (at_builtin
             refine wpList_append_lies _ rfl (.tmp 38) (.tmp 45) 22 rfl (w.heap.size + 1) 46 i0 _ 4 32 Try.underlying22 HI.out.1 HI.out.2.1 HI.out.2.2.1 HI.out.2.2.2 rfl (by decide) u6 ls.length (tCells ls) rfl (P8.out.ows.alloc _) ⟨w8.heap.size, 0, none⟩ 1 1 [.int .u64 0, .int .u64 0, .int .i64 pr, .int .i64 (min sz 0)] rfl rfl (news_four w8 _ _ _ _ _) (by simp [Value.oneCell']) (by omega) (by unfold maxLen; have := HKS.out; omega) (by have := HKS.out; omega) (by have := P8.out.size; simp; omega) (w8.heap.size + 1) (by simp) ?_
             intro g2 cap2 w9 hown9 hgrow9 hwhere9 hlt9
             have P9 := Lib.hid ((P8.out.alloc _).putS (l2 := ls ++ [⟨0, 0, pr, min sz 0⟩]) hgrow9 (by rw [tCells_snoc, List.length_append]; exact hown9) (fun k hk => by
               rcases hwhere9 with e | e
               · left; rw [e]; exact hk
               · right; simp [Value.ownBlock] at hk; simp; omega))
             clear hown9 hgrow9 hwhere9))
        go_roundw
        case rel => exact ⟨k + 1, by omega, by go_num, by rw [← HTM.out, ← HTS.out]; exact P9.out⟩
        case measure => simp [intOf]; omega
    · obtain rfl : k = l.length := by omega
      rw [List.take_length] at P
      obtain ⟨A5, c5, rfl, R5⟩ := trow_of P.out.owm
      obtain ⟨A6, c6, rfl, R6⟩ := trow_of P.out.ows
      have RB := Lib.hid R5
      have RC := Lib.hid R6
      have TB := Lib.hid P.out.tb
      have BW := Lib.hid P.out.below
      have R0 := Lib.hid (HRA.out.below P.out.below)
      have cA := Lib.hid (fun W R => of_any A c l (by omega) W R)
      have cB := Lib.hid (fun W R => of_any A5 c5 (l.map mirT) (by simp; omega) W R)
      have cC := Lib.hid (fun W R => of_any A6 c6 (l.map stillT) (by simp; omega) W R)
      unfold pv at cA cB cC
      simp only [List.length_map] at cB cC RB RC
      clear R5 R6 P
      obtain ⟨za, zb, pa, pb, hm, hcr⟩ := mir_all l begW begW begZ begZ 0 0 0 pf_beg pf_beg ⟨rfl, rfl, rfl⟩ (by omega)
      obtain ⟨za2, zc, pa2, pc, hst⟩ := stl_all l begW begW begZ begZ 0 0 pf_beg pf_beg ⟨rfl, rfl, rfl⟩ (by omega)
      simp only [Int.neg_zero] at pb hcr
      have hcl : (crn (pwalk begW 0 l)).1 = (crn (pwalk begW 0 (l.map mirT))).1 := hcr
      have kA := Lib.hid (fun W R => corners_any A c l (by omega) W R)
      have kB := Lib.hid (fun W R => corners_any A5 c5 (l.map mirT) (by simp; omega) W R)
      rw [← hcl] at kB
      simp only [List.length_map] at kB
      generalize (crn (pwalk begW 0 l)).1 = nk at kA kB
      clear hcl hcr
      have q1 : (FloatKind.f64.format.order (endW begW 0 l).pos.re (endW begW 0 (l.map mirT)).pos.re == some .eq) = true := (fl_eq pa.pos.1 pb.pos.1).trans (by rw [hm.1]; simp)
      have q2 : (FloatKind.f64.format.order (endW begW 0 l).pos.im (Op.negFloat .f64 (endW begW 0 (l.map mirT)).pos.im) == some .eq) = true := (fl_eq pa.pos.2 (fl_neg pb.pos.2)).trans (by rw [hm.2.1]; simp)
      obtain ⟨m1, m2⟩ := t_mir za.h pa.h4
      have q3 : (FloatKind.f64.format.order (endW begW 0 l).hd.re (endW begW 0 (l.map mirT)).hd.re == some .eq) = true := (fl_eq pa.hd.1 pb.hd.1).trans (by rw [hm.2.2, m1]; simp)
      have q4 : (FloatKind.f64.format.order (endW begW 0 l).hd.im (Op.negFloat .f64 (endW begW 0 (l.map mirT)).hd.im) == some .eq) = true := (fl_eq pa.hd.2 (fl_neg pb.hd.2)).trans (by rw [hm.2.2, m2]; simp)
      have q5 : (FloatKind.f64.format.order (endW begW 0 (l.map stillT)).pos.re 0 == some .eq && FloatKind.f64.format.order (endW begW 0 (l.map stillT)).pos.im 0 == some .eq) = true := (ceqW_of (a := (endW begW 0 (l.map stillT)).pos) pc.pos cf_zero).trans (by rw [hst.1, hst.2.1]; simp)
      have q6 : (FloatKind.f64.format.order (endW begW 0 (l.map stillT)).hd.re (endW begW 0 l).hd.re == some .eq && FloatKind.f64.format.order (endW begW 0 (l.map stillT)).hd.im (endW begW 0 l).hd.im == some .eq) = true := (ceqW_of pc.hd pa2.hd).trans (by rw [hst.2.2]; simp)
      have hend := endW_snoc l ⟨t0, t1, t2, t3⟩ begW 0
      obtain ⟨zd, pd⟩ := endW_pf (l ++ [⟨t0, t1, t2, t3⟩]) begW begZ 0 0 pf_beg (by simp; omega)
      have e7 := fun W => eq_path pd W
      have cD : Hid (∀ (W : World) (A7 : Option Addr) (c7 : Nat), TRow W A7 (l ++ [⟨t0, t1, t2, t3⟩]) → Calls Try.prog 7 #[.slice A7 (l.length + 1) c7] W fun e w' => e = .returned (pv (endW begW 0 (l ++ [⟨t0, t1, t2, t3⟩]))) ∧ Below W.heap.size W w') := Lib.hid (fun W A7 c7 R => by
        have h := of_any A7 c7 (l ++ [⟨t0, t1, t2, t3⟩]) (by simp; omega) W R
        rwa [ofW_end, show (l ++ [(⟨t0, t1, t2, t3⟩ : Trd)]).length = l.length + 1 by simp] at h)
      have cT := Lib.hid (fun W => then_x pa (by omega) (lastP l) t0 t1 t2 t3 W)
      rw [show thenW (endW begW 0 l) (lastP l) t2 t3 = endW begW 0 (l ++ [⟨t0, t1, t2, t3⟩]) from hend.symm] at cT
      clear hend pd pa pb pc pa2 hm hst m1 m2
      unfold pv at cD
      rw [ofW_end] at cA cB cC
      generalize endW begW 0 (l.map mirT) = qb at *
      generalize endW begW 0 (l.map stillT) = qc at *
      generalize endW begW 0 (l ++ [⟨t0, t1, t2, t3⟩]) = qd at *
      generalize endW begW 0 l = qa at *
      go_upto_if 56 with (first
        | (go_at_call 7; (with_reducible refine (cA.out _ R0.out).mono ?_); rintro e w3 ⟨rfl, hb3⟩; have RB3 := Lib.hid (RB.out.below hb3); have RC3 := Lib.hid (RC.out.below hb3); have R3 := Lib.hid (R0.out.below hb3); have TB3 := Lib.hid (hp_on' TB.out hb3); have BW3 := Lib.hid (BW.out.trans (hb3.mono BW.out.size)); clear hb3)
        | (go_at_call 7; (with_reducible refine (cB.out _ RB3.out).mono ?_); rintro e w4 ⟨rfl, hb4⟩; have RB4 := Lib.hid (RB3.out.below hb4); have RC4 := Lib.hid (RC3.out.below hb4); have R4 := Lib.hid (R3.out.below hb4); have TB4 := Lib.hid (hp_on' TB3.out hb4); have BW4 := Lib.hid (BW3.out.trans (hb4.mono BW3.out.size)); clear hb4)
        | (go_at_call 7; (with_reducible refine (cC.out _ (trow_two RC4.out)).mono ?_); rintro e w5 ⟨rfl, hb5⟩; have RB5 := Lib.hid ((trow_two RB4.out).below hb5); have R5 := Lib.hid ((trow_two R4.out).below hb5); have TB5 := Lib.hid (hp_on' (hp_two TB4.out) hb5); have BW5 := Lib.hid ((below_two BW4.out).trans (hb5.mono (below_two BW4.out).size)); have N5 := Lib.hid (hp_on' (hp_first w4 (pcs qa) (pcs qb) 26) hb5); have K5 := Lib.hid (hp_on' (hp_second w4 (pcs qa) (pcs qb) 26) hb5); clear hb5))
      have L0 := Lib.hid (ml_start (t := ⟨t0, t1, t2, t3⟩) R5.out RB5.out TB5.out BW5.out N5.out K5.out qc)
      clear R5 RB5 TB5 BW5 N5 K5 RB RC TB BW R0 RB3 RC3 TB3 R3 BW3 RB4 RC4 R4 TB4 BW4 cA cB cC
      go_cut [12] (fun s12 wx => s12 = .int .i64 (lastP l) ∧ wx = w5.alloc (.cells #[.complex .f64 qc.pos.re qc.pos.im, .complex .f64 qc.hd.re qc.hd.im, .int .i64 qc.st, .complex .f64 qc.lo.re qc.lo.im, .complex .f64 qc.hi.re qc.hi.im] 26))
      case first =>
        by_cases h0 : (0 : Int) < (l.length : Int)
        · obtain ⟨a, rfl, hab, hcl⟩ := L0.out.ra (by omega)
          have x2 := (hcl (l.length - 1) (by omega)).2.2.1
          have hlp : l[l.length - 1].price = lastP l := by
            unfold lastP
            rw [List.getLastD_eq_getLast?, List.getLast?_eq_getElem?, List.getElem?_eq_getElem (by omega)]; rfl
          rw [hlp] at x2
          have x2' : (w5.alloc (.cells #[.complex .f64 qc.pos.re qc.pos.im, .complex .f64 qc.hd.re qc.hd.im, .int .i64 qc.st, .complex .f64 qc.lo.re qc.lo.im, .complex .f64 qc.hi.re qc.hi.im] 26)).cell? ⟨(a.add ((l.length - 1) * 4)).block, (a.add ((l.length - 1) * 4)).off + 2, none⟩ = some (.int .i64 (lastP l)) := x2
          clear hcl x2 hlp
          have hix : ((l.length : Int) - 1).toNat = l.length - 1 := by omega
          go_wp2
          go_meet
          case rel => exact ⟨rfl, rfl⟩
        · have h1 : lastP l = 0 := by
            have : l = [] := List.eq_nil_of_length_eq_zero (by omega)
            subst this; rfl
          have H1 := Lib.hid h1
          clear h1
          go_wp2
          go_meet
          case rel => exact ⟨by rw [H1.out], rfl⟩
      case rest =>
      obtain ⟨rfl, rfl⟩ := hcut
      obtain ⟨w6, hw6⟩ : ∃ W, W = w5.alloc (.cells #[.complex .f64 qc.pos.re qc.pos.im, .complex .f64 qc.hd.re qc.hd.im, .int .i64 qc.st, .complex .f64 qc.lo.re qc.lo.im, .complex .f64 qc.hi.re qc.hi.im] 26) := ⟨_, rfl⟩
      have L6 : Hid (ML w ⟨t0, t1, t2, t3⟩ A A5 l (l.map mirT) w4.heap.size (w4.heap.size + 1) w5.heap.size qa qb qc w6) := by rw [hw6]; exact L0
      rw [← hw6]
      clear hw6 L0
      have hsl : ∀ W, (Instr.slice 22 (.slice A l.length c) none (some (.int .i64 (l.length : Int))) (some (.int .i64 (l.length : Int)))).run Try.prog W = .ok (.slice A l.length l.length) W := fun W => slice_full A l.length c hc W
      go_upto_region 19 with fail
      go_cut [13, 14] (fun s13 s14 wx => ∃ k13 k14 : Nat, s13 = .pointer (some ⟨k13, 0, none⟩) ∧ s14 = .pointer (some ⟨k14, 0, none⟩) ∧ wx.heap[k13]? = some (.cells (pcs qd) 26 (0, 0)) ∧ wx.heap[k14]? = some (.cells (pcs qd) 26 (0, 0)) ∧ Below w6.heap.size w6 wx)
      case first =>
        refine wp_region_noPanic ?_
        refine wp_region_held_drew (S := (fun wx => Below w6.heap.size w6 wx)) (by kernel_rfl) ⟨rfl, rfl, rfl, Nat.le_refl _, fun _ _ => rfl⟩ (fun HS => ?_)
        refine wpAnyH_take (S := (fun wx => Below w6.heap.size w6 wx)) (i := 0) (oi := { dst := some 64, op := Go.Op.move (Go.Operand.tmp 0), type := 22, pos := "law.go:83", after := #[], guard := none }) (v := ?v1) rfl (by kernel_rfl) (by kernel_rfl) (by kernel_rfl) (fun _ _ _ h => h) (Or.inl ⟨by rfl, ?y1⟩) HS ?r1
        case y1 => (intro wx hSw; skip; go_simp; first | done | with_reducible rfl | skip)
        try simp only [Act.put, List.setIfInBounds_toArray, List.set_cons_zero, List.set_cons_succ]
        refine wpAnyH_take (S := (fun wx => Below w6.heap.size w6 wx)) (i := 1) (oi := { dst := some 65, op := Go.Op.move (Go.Operand.tmp 0), type := 22, pos := "law.go:83", after := #[], guard := none }) (v := ?v2) rfl (by kernel_rfl) (by kernel_rfl) (by kernel_rfl) (fun _ _ _ h => h) (Or.inl ⟨by rfl, ?y2⟩) HS ?r2
        case y2 => (intro wx hSw; skip; go_simp; first | done | with_reducible rfl | skip)
        try simp only [Act.put, List.setIfInBounds_toArray, List.set_cons_zero, List.set_cons_succ]
        refine wpAnyH_take (S := (fun wx => Below w6.heap.size w6 wx)) (i := 2) (oi := { dst := some 66, op := Go.Op.call { callee := Go.Callee.builtin Go.Builtin.len, args := #[Go.Operand.tmp 65], argTypes := #[22] }, type := 3, pos := "law.go:83", after := #[{ on := 1, ground := Go.Ground.data }], guard := none }) (v := ?v3) rfl (by kernel_rfl) (by kernel_rfl) (by kernel_rfl) (fun _ _ _ h => h) (Or.inl ⟨by rfl, ?y3⟩) HS ?r3
        case y3 => (intro wx hSw; skip; go_simp; first | done | with_reducible rfl | skip)
        try simp only [Act.put, List.setIfInBounds_toArray, List.set_cons_zero, List.set_cons_succ]
        refine wpAnyH_take (S := (fun wx => Below w6.heap.size w6 wx)) (i := 3) (oi := { dst := some 67, op := Go.Op.move (Go.Operand.tmp 0), type := 22, pos := "law.go:83", after := #[], guard := none }) (v := ?v4) rfl (by kernel_rfl) (by kernel_rfl) (by kernel_rfl) (fun _ _ _ h => h) (Or.inl ⟨by rfl, ?y4⟩) HS ?r4
        case y4 => (intro wx hSw; skip; go_simp; first | done | with_reducible rfl | skip)
        try simp only [Act.put, List.setIfInBounds_toArray, List.set_cons_zero, List.set_cons_succ]
        refine wpAnyH_take (S := (fun wx => Below w6.heap.size w6 wx)) (i := 4) (oi := { dst := some 68, op := Go.Op.call { callee := Go.Callee.builtin Go.Builtin.len, args := #[Go.Operand.tmp 67], argTypes := #[22] }, type := 3, pos := "law.go:83", after := #[{ on := 3, ground := Go.Ground.data }], guard := none }) (v := ?v5) rfl (by kernel_rfl) (by kernel_rfl) (by kernel_rfl) (fun _ _ _ h => h) (Or.inl ⟨by rfl, ?y5⟩) HS ?r5
        case y5 => (intro wx hSw; skip; go_simp; first | done | with_reducible rfl | skip)
        try simp only [Act.put, List.setIfInBounds_toArray, List.set_cons_zero, List.set_cons_succ]
        refine wpAnyH_take (S := (fun wx => Below w6.heap.size w6 wx)) (i := 5) (oi := { dst := some 69, op := Go.Op.slice 22 (Go.Operand.tmp 64) none (some (Go.Operand.tmp 66)) (some (Go.Operand.tmp 68)), type := 22, pos := "law.go:83", after := #[{ on := 0, ground := Go.Ground.data }, { on := 2, ground := Go.Ground.data }, { on := 4, ground := Go.Ground.data }], guard := none }) (v := .slice A l.length l.length) rfl (by kernel_rfl) (by kernel_rfl) (by kernel_rfl) (fun _ _ _ h => h) (Or.inl ⟨by rfl, ?y6⟩) HS ?r6
        case y6 => (intro wx hSw; skip; go_simp; first | done | with_reducible rfl | skip)
        try simp only [Act.put, List.setIfInBounds_toArray, List.set_cons_zero, List.set_cons_succ]
        refine wpAnyH_take (S := (fun wx => Below w6.heap.size w6 wx)) (i := 6) (oi := { dst := some 70, op := Go.Op.load 46 (Go.Operand.tmp 3), type := 46, pos := "law.go:83", after := #[], guard := none }) (v := ?v7) rfl (by kernel_rfl) (by kernel_rfl) (by kernel_rfl) (fun _ _ _ h => h) (Or.inl ⟨by rfl, ?y7⟩) HS ?r7
        case y7 => (intro wx hSw; obtain ⟨y0, y1, y2, y3⟩ := row4 (hp_on' L6.out.tb hSw); go_simp; first | done | with_reducible rfl | skip)
        try simp only [Act.put, List.setIfInBounds_toArray, List.set_cons_zero, List.set_cons_succ]
        refine wpAnyH_take (S := (fun wx => Below w6.heap.size w6 wx)) (i := 10) (oi := { dst := some 74, op := Go.Op.load 26 (Go.Operand.tmp 9), type := 26, pos := "law.go:83", after := #[], guard := none }) (v := ?v8) rfl (by kernel_rfl) (by kernel_rfl) (by kernel_rfl) (fun _ _ _ h => h) (Or.inl ⟨by rfl, ?y8⟩) HS ?r8
        case y8 => (intro wx hSw; obtain ⟨⟨y0, y1, y2, y3, y4⟩, -⟩ := row5 (hp_on' L6.out.b9 hSw); go_simp; first | done | with_reducible rfl | skip)
        try simp only [Act.put, List.setIfInBounds_toArray, List.set_cons_zero, List.set_cons_succ]
        refine wpAnyH_take (S := (fun wx => Below w6.heap.size w6 wx)) (i := 11) (oi := { dst := some 75, op := Go.Op.move (Go.Operand.tmp 12), type := 2, pos := "law.go:83", after := #[], guard := none }) (v := ?v9) rfl (by kernel_rfl) (by kernel_rfl) (by kernel_rfl) (fun _ _ _ h => h) (Or.inl ⟨by rfl, ?y9⟩) HS ?r9
        case y9 => (intro wx hSw; skip; go_simp; first | done | with_reducible rfl | skip)
        try simp only [Act.put, List.setIfInBounds_toArray, List.set_cons_zero, List.set_cons_succ]
        refine wpAnyH_take (S := (fun wx => Below w6.heap.size w6 wx)) (i := 12) (oi := { dst := some 76, op := Go.Op.load 46 (Go.Operand.tmp 3), type := 46, pos := "law.go:83", after := #[], guard := none }) (v := ?v10) rfl (by kernel_rfl) (by kernel_rfl) (by kernel_rfl) (fun _ _ _ h => h) (Or.inl ⟨by rfl, ?y10⟩) HS ?r10
        case y10 => (intro wx hSw; obtain ⟨y0, y1, y2, y3⟩ := row4 (hp_on' L6.out.tb hSw); go_simp; first | done | with_reducible rfl | skip)
        try simp only [Act.put, List.setIfInBounds_toArray, List.set_cons_zero, List.set_cons_succ]
        refine wpAnyH_ready (rs := [7, 14, 15]) (by kernel_rfl) (by simp) ?_
        refine AllReadyH.cons (o := { dst := some 71, op := Go.Op.buildSlice 22 1 #[(0, Go.Operand.tmp 70)], type := 22, pos := "law.go:83", after := #[{ on := 6, ground := Go.Ground.data }], guard := none }) rfl (fun K hK => ?_) ?_
        · skip
          refine st_news (y := 70) rfl rfl rfl (fun bn wn hge hrow hbel => ?_)
          have N := Lib.hid (And.intro hrow (Nat.le_trans HS.size hge))
          clear hrow hge
          have HS2 := HS.trans (hbel.mono HS.size)
          clear HS hbel
          refine hK.out _ _ HS2 (fun HS => ?_)
          clear HS2 hK
          try simp only [Act.put, List.setIfInBounds_toArray, List.set_cons_zero, List.set_cons_succ]
          refine wpAnyH_ready (rs := [8, 14, 15]) (by kernel_rfl) (by simp) ?_
          refine AllReadyH.cons (o := { dst := some 72, op := Go.Op.call { callee := Go.Callee.builtin Go.Builtin.append, args := #[Go.Operand.tmp 69, Go.Operand.tmp 71], argTypes := #[22, 22] }, type := 22, pos := "law.go:83", after := #[{ on := 5, ground := Go.Ground.data }, { on := 7, ground := Go.Ground.data }], guard := none }) rfl (fun K hK => ?_) ?_
          · skip
            refine step_append_grows rfl (.tmp 69) (.tmp 71) 22 rfl 46 i0 _ 4 32 Try.underlying22 HI.out.1 HI.out.2.1 HI.out.2.2.1 HI.out.2.2.2 rfl (by decide) A l.length l.length (tCells l) rfl (fun e => ⟨(HA.out e).1, (HA.out e).1⟩) (tCells_len l) (trow_cells (L6.out.ra.below HS)) ⟨bn, 0, none⟩ 1 1 [.int .u64 t0, .int .u64 t1, .int .i64 t2, .int .i64 t3] rfl rfl (World.news_of_block N.out.1) (by simp [Value.oneCell']) (by omega) (by unfold maxLen; omega) (by omega) ?_
            intro v7 wn hown hgr
            obtain ⟨A7, c7, rfl, hrr⟩ := trow_snoc (t := ⟨t0, t1, t2, t3⟩) hown
            have hbel := below_grown0 hgr
            clear N hown hgr
            have RR := Lib.hid hrr
            clear hrr
            have HS2 := HS.trans (hbel.mono HS.size)
            clear HS hbel
            refine hK.out _ _ HS2 (fun HS => ?_)
            clear HS2 hK
            try simp only [Act.put, List.setIfInBounds_toArray, List.set_cons_zero, List.set_cons_succ]
            refine wpAnyH_ready (rs := [9, 14, 15]) (by kernel_rfl) (by simp) ?_
            refine AllReadyH.cons (o := { dst := some 73, op := Go.Op.call { callee := Go.Callee.value (Go.Operand.func 7), args := #[Go.Operand.tmp 72], argTypes := #[22] }, type := 26, pos := "law.go:83", after := #[{ on := 8, ground := Go.Ground.data }, { on := 8, ground := Go.Ground.chain }], guard := none }) rfl (fun K hK => ?_) ?_
            · skip
              go_simp
              refine (cD.out _ A7 c7 RR.out).mono ?_; rintro e wn ⟨rfl, hbel⟩
              clear RR
              have HS2 := HS.trans (hbel.mono HS.size)
              clear HS hbel
              refine hK.out _ _ HS2 (fun HS => ?_)
              clear HS2 hK
              try simp only [Act.put, List.setIfInBounds_toArray, List.set_cons_zero, List.set_cons_succ]
              refine wpAnyH_ready (rs := [13, 14, 15]) (by kernel_rfl) (by simp) ?_
              refine AllReadyH.cons (o := { dst := some 77, op := Go.Op.call { callee := Go.Callee.value (Go.Operand.func 16), args := #[Go.Operand.tmp 74, Go.Operand.tmp 75, Go.Operand.tmp 76], argTypes := #[26, 2, 46] }, type := 26, pos := "law.go:83", after := #[{ on := 10, ground := Go.Ground.data }, { on := 11, ground := Go.Ground.data }, { on := 12, ground := Go.Ground.data }, { on := 9, ground := Go.Ground.chain }], guard := none }) rfl (fun K hK => ?_) ?_
              · skip
                go_simp
                refine (cT.out _).mono ?_; rintro e wn ⟨rfl, hbel⟩
                have HS2 := HS.trans (hbel.mono HS.size)
                clear HS hbel
                refine hK.out _ _ HS2 (fun HS => ?_)
                clear HS2 hK
                try simp only [Act.put, List.setIfInBounds_toArray, List.set_cons_zero, List.set_cons_succ]
                refine wpAnyH_ready (rs := [14, 15]) (by kernel_rfl) (by simp) ?_
                refine AllReadyH.cons (o := { dst := some 13, op := Go.Op.alloc 26, type := 0, pos := "law.go:83", after := #[], guard := none }) rfl (fun K hK => ?_) ?_
                · skip
                  refine st_alloc rfl rfl (fun b13 wn hge hrow hbel => ?_)
                  have P13 := Lib.hid (And.intro hrow (Nat.le_trans HS.size hge))
                  clear hrow hge
                  have HS2 := HS.trans (hbel.mono HS.size)
                  clear HS hbel
                  refine hK.out _ _ HS2 (fun HS => ?_)
                  clear HS2 hK
                  try simp only [Act.put, List.setIfInBounds_toArray, List.set_cons_zero, List.set_cons_succ]
                  refine wpAnyH_ready (rs := [15]) (by kernel_rfl) (by simp) ?_
                  refine AllReadyH.cons (o := { dst := some 14, op := Go.Op.alloc 26, type := 0, pos := "law.go:83", after := #[], guard := none }) rfl (fun K hK => ?_) AllReadyH.nil
                  refine st_alloc rfl rfl (fun b14 wn hge hrow hbel => ?_)
                  have D : Hid (b13 ≠ b14) := Lib.hid (by have := (Array.getElem?_eq_some_iff.1 P13.out.1).1; omega)
                  replace P13 := Lib.hid (And.intro (hp_on' P13.out.1 hbel) P13.out.2)
                  have P14 := Lib.hid (And.intro hrow (Nat.le_trans HS.size hge))
                  clear hrow hge
                  have HS2 := HS.trans (hbel.mono HS.size)
                  clear HS hbel
                  refine hK.out _ _ HS2 (fun HS => ?_)
                  clear HS2 hK
                  try simp only [Act.put, List.setIfInBounds_toArray, List.set_cons_zero, List.set_cons_succ]
                  refine wpAnyH_ready (rs := [16]) (by kernel_rfl) (by simp) ?_
                  refine AllReadyH.cons (o := { dst := none, op := Go.Op.store 26 (Go.Operand.tmp 13) (Go.Operand.tmp 73), type := 0, pos := "law.go:83", after := #[{ on := 14, ground := Go.Ground.data }, { on := 9, ground := Go.Ground.data }, { on := 13, ground := Go.Ground.chain }, { on := 0, ground := Go.Ground.phase }, { on := 1, ground := Go.Ground.phase }, { on := 2, ground := Go.Ground.phase }, { on := 3, ground := Go.Ground.phase }, { on := 4, ground := Go.Ground.phase }, { on := 5, ground := Go.Ground.phase }, { on := 6, ground := Go.Ground.phase }, { on := 7, ground := Go.Ground.phase }, { on := 8, ground := Go.Ground.phase }, { on := 9, ground := Go.Ground.phase }, { on := 10, ground := Go.Ground.textOnly Go.Departure.lateStores }, { on := 11, ground := Go.Ground.textOnly Go.Departure.lateStores }, { on := 12, ground := Go.Ground.textOnly Go.Departure.lateStores }, { on := 13, ground := Go.Ground.textOnly Go.Departure.lateStoresUnsure }, { on := 14, ground := Go.Ground.phase }, { on := 15, ground := Go.Ground.phase }], guard := none }) rfl (fun K hK => ?_) AllReadyH.nil
                  refine st_store (p := 13) (q := 73) (b := b13) (u := zW) (v := qd) rfl rfl rfl rfl P13.out.1 rfl (fun wn hrow hgr => ?_)
                  replace P14 := Lib.hid (And.intro (keep_other P14.out.1 hgr (by have := D.out; omega)) P14.out.2)
                  have HS2 := below_grown1 HS hgr P13.out.2
                  replace P13 := Lib.hid (And.intro hrow P13.out.2)
                  clear HS hrow hgr
                  refine hK.out _ _ HS2 (fun HS => ?_)
                  clear HS2 hK
                  try simp only [Act.put, List.setIfInBounds_toArray, List.set_cons_zero, List.set_cons_succ]
                  refine wpAnyH_ready (rs := [17]) (by kernel_rfl) (by simp) ?_
                  refine AllReadyH.cons (o := { dst := none, op := Go.Op.store 26 (Go.Operand.tmp 14) (Go.Operand.tmp 77), type := 0, pos := "law.go:83", after := #[{ on := 15, ground := Go.Ground.data }, { on := 13, ground := Go.Ground.data }, { on := 16, ground := Go.Ground.chain }, { on := 0, ground := Go.Ground.phase }, { on := 1, ground := Go.Ground.phase }, { on := 2, ground := Go.Ground.phase }, { on := 3, ground := Go.Ground.phase }, { on := 4, ground := Go.Ground.phase }, { on := 5, ground := Go.Ground.phase }, { on := 6, ground := Go.Ground.phase }, { on := 7, ground := Go.Ground.phase }, { on := 8, ground := Go.Ground.phase }, { on := 9, ground := Go.Ground.phase }, { on := 10, ground := Go.Ground.phase }, { on := 11, ground := Go.Ground.phase }, { on := 12, ground := Go.Ground.phase }, { on := 13, ground := Go.Ground.phase }, { on := 14, ground := Go.Ground.phase }, { on := 15, ground := Go.Ground.phase }, { on := 16, ground := Go.Ground.phase }], guard := none }) rfl (fun K hK => ?_) AllReadyH.nil
                  refine st_store (p := 14) (q := 77) (b := b14) (u := zW) (v := qd) rfl rfl rfl rfl P14.out.1 rfl (fun wn hrow hgr => ?_)
                  replace P13 := Lib.hid (And.intro (keep_other P13.out.1 hgr (by have := D.out; omega)) P13.out.2)
                  have HS2 := below_grown1 HS hgr P14.out.2
                  replace P14 := Lib.hid (And.intro hrow P14.out.2)
                  clear HS hrow hgr
                  refine hK.out _ _ HS2 (fun HS => ?_)
                  clear HS2 hK
                  try simp only [Act.put, List.setIfInBounds_toArray, List.set_cons_zero, List.set_cons_succ]
                  refine wpAnyH_done (by kernel_rfl) ?_ _
                  refine NoPanic.normal ?_
                  go_wp2
                  go_meet
                  case rel => exact ⟨b13, b14, rfl, rfl, P13.out.1, P14.out.1, HS⟩
                refine AllReadyH.cons (o := { dst := some 14, op := Go.Op.alloc 26, type := 0, pos := "law.go:83", after := #[], guard := none }) rfl (fun K hK => ?_) AllReadyH.nil
                refine st_alloc rfl rfl (fun b14 wn hge hrow hbel => ?_)
                have P14 := Lib.hid (And.intro hrow (Nat.le_trans HS.size hge))
                clear hrow hge
                have HS2 := HS.trans (hbel.mono HS.size)
                clear HS hbel
                refine hK.out _ _ HS2 (fun HS => ?_)
                clear HS2 hK
                try simp only [Act.put, List.setIfInBounds_toArray, List.set_cons_zero, List.set_cons_succ]
                refine wpAnyH_ready (rs := [14]) (by kernel_rfl) (by simp) ?_
                refine AllReadyH.cons (o := { dst := some 13, op := Go.Op.alloc 26, type := 0, pos := "law.go:83", after := #[], guard := none }) rfl (fun K hK => ?_) AllReadyH.nil
                refine st_alloc rfl rfl (fun b13 wn hge hrow hbel => ?_)
                have D : Hid (b13 ≠ b14) := Lib.hid (by have := (Array.getElem?_eq_some_iff.1 P14.out.1).1; omega)
                replace P14 := Lib.hid (And.intro (hp_on' P14.out.1 hbel) P14.out.2)
                have P13 := Lib.hid (And.intro hrow (Nat.le_trans HS.size hge))
                clear hrow hge
                have HS2 := HS.trans (hbel.mono HS.size)
                clear HS hbel
                refine hK.out _ _ HS2 (fun HS => ?_)
                clear HS2 hK
                try simp only [Act.put, List.setIfInBounds_toArray, List.set_cons_zero, List.set_cons_succ]
                refine wpAnyH_ready (rs := [16]) (by kernel_rfl) (by simp) ?_
                refine AllReadyH.cons (o := { dst := none, op := Go.Op.store 26 (Go.Operand.tmp 13) (Go.Operand.tmp 73), type := 0, pos := "law.go:83", after := #[{ on := 14, ground := Go.Ground.data }, { on := 9, ground := Go.Ground.data }, { on := 13, ground := Go.Ground.chain }, { on := 0, ground := Go.Ground.phase }, { on := 1, ground := Go.Ground.phase }, { on := 2, ground := Go.Ground.phase }, { on := 3, ground := Go.Ground.phase }, { on := 4, ground := Go.Ground.phase }, { on := 5, ground := Go.Ground.phase }, { on := 6, ground := Go.Ground.phase }, { on := 7, ground := Go.Ground.phase }, { on := 8, ground := Go.Ground.phase }, { on := 9, ground := Go.Ground.phase }, { on := 10, ground := Go.Ground.textOnly Go.Departure.lateStores }, { on := 11, ground := Go.Ground.textOnly Go.Departure.lateStores }, { on := 12, ground := Go.Ground.textOnly Go.Departure.lateStores }, { on := 13, ground := Go.Ground.textOnly Go.Departure.lateStoresUnsure }, { on := 14, ground := Go.Ground.phase }, { on := 15, ground := Go.Ground.phase }], guard := none }) rfl (fun K hK => ?_) AllReadyH.nil
                refine st_store (p := 13) (q := 73) (b := b13) (u := zW) (v := qd) rfl rfl rfl rfl P13.out.1 rfl (fun wn hrow hgr => ?_)
                replace P14 := Lib.hid (And.intro (keep_other P14.out.1 hgr (by have := D.out; omega)) P14.out.2)
                have HS2 := below_grown1 HS hgr P13.out.2
                replace P13 := Lib.hid (And.intro hrow P13.out.2)
                clear HS hrow hgr
                refine hK.out _ _ HS2 (fun HS => ?_)
                clear HS2 hK
                try simp only [Act.put, List.setIfInBounds_toArray, List.set_cons_zero, List.set_cons_succ]
                refine wpAnyH_ready (rs := [17]) (by kernel_rfl) (by simp) ?_
                refine AllReadyH.cons (o := { dst := none, op := Go.Op.store 26 (Go.Operand.tmp 14) (Go.Operand.tmp 77), type := 0, pos := "law.go:83", after := #[{ on := 15, ground := Go.Ground.data }, { on := 13, ground := Go.Ground.data }, { on := 16, ground := Go.Ground.chain }, { on := 0, ground := Go.Ground.phase }, { on := 1, ground := Go.Ground.phase }, { on := 2, ground := Go.Ground.phase }, { on := 3, ground := Go.Ground.phase }, { on := 4, ground := Go.Ground.phase }, { on := 5, ground := Go.Ground.phase }, { on := 6, ground := Go.Ground.phase }, { on := 7, ground := Go.Ground.phase }, { on := 8, ground := Go.Ground.phase }, { on := 9, ground := Go.Ground.phase }, { on := 10, ground := Go.Ground.phase }, { on := 11, ground := Go.Ground.phase }, { on := 12, ground := Go.Ground.phase }, { on := 13, ground := Go.Ground.phase }, { on := 14, ground := Go.Ground.phase }, { on := 15, ground := Go.Ground.phase }, { on := 16, ground := Go.Ground.phase }], guard := none }) rfl (fun K hK => ?_) AllReadyH.nil
                refine st_store (p := 14) (q := 77) (b := b14) (u := zW) (v := qd) rfl rfl rfl rfl P14.out.1 rfl (fun wn hrow hgr => ?_)
                replace P13 := Lib.hid (And.intro (keep_other P13.out.1 hgr (by have := D.out; omega)) P13.out.2)
                have HS2 := below_grown1 HS hgr P14.out.2
                replace P14 := Lib.hid (And.intro hrow P14.out.2)
                clear HS hrow hgr
                refine hK.out _ _ HS2 (fun HS => ?_)
                clear HS2 hK
                try simp only [Act.put, List.setIfInBounds_toArray, List.set_cons_zero, List.set_cons_succ]
                refine wpAnyH_done (by kernel_rfl) ?_ _
                refine NoPanic.normal ?_
                go_wp2
                go_meet
                case rel => exact ⟨b13, b14, rfl, rfl, P13.out.1, P14.out.1, HS⟩
              refine AllReadyH.cons (o := { dst := some 13, op := Go.Op.alloc 26, type := 0, pos := "law.go:83", after := #[], guard := none }) rfl (fun K hK => ?_) ?_
              · skip
                refine st_alloc rfl rfl (fun b13 wn hge hrow hbel => ?_)
                have P13 := Lib.hid (And.intro hrow (Nat.le_trans HS.size hge))
                clear hrow hge
                have HS2 := HS.trans (hbel.mono HS.size)
                clear HS hbel
                refine hK.out _ _ HS2 (fun HS => ?_)
                clear HS2 hK
                try simp only [Act.put, List.setIfInBounds_toArray, List.set_cons_zero, List.set_cons_succ]
                refine wpAnyH_ready (rs := [13, 15]) (by kernel_rfl) (by simp) ?_
                refine AllReadyH.cons (o := { dst := some 77, op := Go.Op.call { callee := Go.Callee.value (Go.Operand.func 16), args := #[Go.Operand.tmp 74, Go.Operand.tmp 75, Go.Operand.tmp 76], argTypes := #[26, 2, 46] }, type := 26, pos := "law.go:83", after := #[{ on := 10, ground := Go.Ground.data }, { on := 11, ground := Go.Ground.data }, { on := 12, ground := Go.Ground.data }, { on := 9, ground := Go.Ground.chain }], guard := none }) rfl (fun K hK => ?_) ?_
                · skip
                  go_simp
                  refine (cT.out _).mono ?_; rintro e wn ⟨rfl, hbel⟩
                  replace P13 := Lib.hid (And.intro (hp_on' P13.out.1 hbel) P13.out.2)
                  have HS2 := HS.trans (hbel.mono HS.size)
                  clear HS hbel
                  refine hK.out _ _ HS2 (fun HS => ?_)
                  clear HS2 hK
                  try simp only [Act.put, List.setIfInBounds_toArray, List.set_cons_zero, List.set_cons_succ]
                  refine wpAnyH_ready (rs := [15]) (by kernel_rfl) (by simp) ?_
                  refine AllReadyH.cons (o := { dst := some 14, op := Go.Op.alloc 26, type := 0, pos := "law.go:83", after := #[], guard := none }) rfl (fun K hK => ?_) AllReadyH.nil
                  refine st_alloc rfl rfl (fun b14 wn hge hrow hbel => ?_)
                  have D : Hid (b13 ≠ b14) := Lib.hid (by have := (Array.getElem?_eq_some_iff.1 P13.out.1).1; omega)
                  replace P13 := Lib.hid (And.intro (hp_on' P13.out.1 hbel) P13.out.2)
                  have P14 := Lib.hid (And.intro hrow (Nat.le_trans HS.size hge))
                  clear hrow hge
                  have HS2 := HS.trans (hbel.mono HS.size)
                  clear HS hbel
                  refine hK.out _ _ HS2 (fun HS => ?_)
                  clear HS2 hK
                  try simp only [Act.put, List.setIfInBounds_toArray, List.set_cons_zero, List.set_cons_succ]
                  refine wpAnyH_ready (rs := [16]) (by kernel_rfl) (by simp) ?_
                  refine AllReadyH.cons (o := { dst := none, op := Go.Op.store 26 (Go.Operand.tmp 13) (Go.Operand.tmp 73), type := 0, pos := "law.go:83", after := #[{ on := 14, ground := Go.Ground.data }, { on := 9, ground := Go.Ground.data }, { on := 13, ground := Go.Ground.chain }, { on := 0, ground := Go.Ground.phase }, { on := 1, ground := Go.Ground.phase }, { on := 2, ground := Go.Ground.phase }, { on := 3, ground := Go.Ground.phase }, { on := 4, ground := Go.Ground.phase }, { on := 5, ground := Go.Ground.phase }, { on := 6, ground := Go.Ground.phase }, { on := 7, ground := Go.Ground.phase }, { on := 8, ground := Go.Ground.phase }, { on := 9, ground := Go.Ground.phase }, { on := 10, ground := Go.Ground.textOnly Go.Departure.lateStores }, { on := 11, ground := Go.Ground.textOnly Go.Departure.lateStores }, { on := 12, ground := Go.Ground.textOnly Go.Departure.lateStores }, { on := 13, ground := Go.Ground.textOnly Go.Departure.lateStoresUnsure }, { on := 14, ground := Go.Ground.phase }, { on := 15, ground := Go.Ground.phase }], guard := none }) rfl (fun K hK => ?_) AllReadyH.nil
                  refine st_store (p := 13) (q := 73) (b := b13) (u := zW) (v := qd) rfl rfl rfl rfl P13.out.1 rfl (fun wn hrow hgr => ?_)
                  replace P14 := Lib.hid (And.intro (keep_other P14.out.1 hgr (by have := D.out; omega)) P14.out.2)
                  have HS2 := below_grown1 HS hgr P13.out.2
                  replace P13 := Lib.hid (And.intro hrow P13.out.2)
                  clear HS hrow hgr
                  refine hK.out _ _ HS2 (fun HS => ?_)
                  clear HS2 hK
                  try simp only [Act.put, List.setIfInBounds_toArray, List.set_cons_zero, List.set_cons_succ]
                  refine wpAnyH_ready (rs := [17]) (by kernel_rfl) (by simp) ?_
                  refine AllReadyH.cons (o := { dst := none, op := Go.Op.store 26 (Go.Operand.tmp 14) (Go.Operand.tmp 77), type := 0, pos := "law.go:83", after := #[{ on := 15, ground := Go.Ground.data }, { on := 13, ground := Go.Ground.data }, { on := 16, ground := Go.Ground.chain }, { on := 0, ground := Go.Ground.phase }, { on := 1, ground := Go.Ground.phase }, { on := 2, ground := Go.Ground.phase }, { on := 3, ground := Go.Ground.phase }, { on := 4, ground := Go.Ground.phase }, { on := 5, ground := Go.Ground.phase }, { on := 6, ground := Go.Ground.phase }, { on := 7, ground := Go.Ground.phase }, { on := 8, ground := Go.Ground.phase }, { on := 9, ground := Go.Ground.phase }, { on := 10, ground := Go.Ground.phase }, { on := 11, ground := Go.Ground.phase }, { on := 12, ground := Go.Ground.phase }, { on := 13, ground := Go.Ground.phase }, { on := 14, ground := Go.Ground.phase }, { on := 15, ground := Go.Ground.phase }, { on := 16, ground := Go.Ground.phase }], guard := none }) rfl (fun K hK => ?_) AllReadyH.nil
                  refine st_store (p := 14) (q := 77) (b := b14) (u := zW) (v := qd) rfl rfl rfl rfl P14.out.1 rfl (fun wn hrow hgr => ?_)
                  replace P13 := Lib.hid (And.intro (keep_other P13.out.1 hgr (by have := D.out; omega)) P13.out.2)
                  have HS2 := below_grown1 HS hgr P14.out.2
                  replace P14 := Lib.hid (And.intro hrow P14.out.2)
                  clear HS hrow hgr
                  refine hK.out _ _ HS2 (fun HS => ?_)
                  clear HS2 hK
                  try simp only [Act.put, List.setIfInBounds_toArray, List.set_cons_zero, List.set_cons_succ]
                  refine wpAnyH_done (by kernel_rfl) ?_ _
                  refine NoPanic.normal ?_
                  go_wp2
                  go_meet
                  case rel => exact ⟨b13, b14, rfl, rfl, P13.out.1, P14.out.1, HS⟩
                refine AllReadyH.cons (o := { dst := some 14, op := Go.Op.alloc 26, type := 0, pos := "law.go:83", after := #[], guard := none }) rfl (fun K hK => ?_) AllReadyH.nil
                refine st_alloc rfl rfl (fun b14 wn hge hrow hbel => ?_)
                have D : Hid (b13 ≠ b14) := Lib.hid (by have := (Array.getElem?_eq_some_iff.1 P13.out.1).1; omega)
                replace P13 := Lib.hid (And.intro (hp_on' P13.out.1 hbel) P13.out.2)
                have P14 := Lib.hid (And.intro hrow (Nat.le_trans HS.size hge))
                clear hrow hge
                have HS2 := HS.trans (hbel.mono HS.size)
                clear HS hbel
                refine hK.out _ _ HS2 (fun HS => ?_)
                clear HS2 hK
                try simp only [Act.put, List.setIfInBounds_toArray, List.set_cons_zero, List.set_cons_succ]
                refine wpAnyH_ready (rs := [13]) (by kernel_rfl) (by simp) ?_
                refine AllReadyH.cons (o := { dst := some 77, op := Go.Op.call { callee := Go.Callee.value (Go.Operand.func 16), args := #[Go.Operand.tmp 74, Go.Operand.tmp 75, Go.Operand.tmp 76], argTypes := #[26, 2, 46] }, type := 26, pos := "law.go:83", after := #[{ on := 10, ground := Go.Ground.data }, { on := 11, ground := Go.Ground.data }, { on := 12, ground := Go.Ground.data }, { on := 9, ground := Go.Ground.chain }], guard := none }) rfl (fun K hK => ?_) AllReadyH.nil
                go_simp
                refine (cT.out _).mono ?_; rintro e wn ⟨rfl, hbel⟩
                replace P13 := Lib.hid (And.intro (hp_on' P13.out.1 hbel) P13.out.2)
                replace P14 := Lib.hid (And.intro (hp_on' P14.out.1 hbel) P14.out.2)
                have HS2 := HS.trans (hbel.mono HS.size)
                clear HS hbel
                refine hK.out _ _ HS2 (fun HS => ?_)
                clear HS2 hK
                try simp only [Act.put, List.setIfInBounds_toArray, List.set_cons_zero, List.set_cons_succ]
                refine wpAnyH_ready (rs := [16]) (by kernel_rfl) (by simp) ?_
                refine AllReadyH.cons (o := { dst := none, op := Go.Op.store 26 (Go.Operand.tmp 13) (Go.Operand.tmp 73), type := 0, pos := "law.go:83", after := #[{ on := 14, ground := Go.Ground.data }, { on := 9, ground := Go.Ground.data }, { on := 13, ground := Go.Ground.chain }, { on := 0, ground := Go.Ground.phase }, { on := 1, ground := Go.Ground.phase }, { on := 2, ground := Go.Ground.phase }, { on := 3, ground := Go.Ground.phase }, { on := 4, ground := Go.Ground.phase }, { on := 5, ground := Go.Ground.phase }, { on := 6, ground := Go.Ground.phase }, { on := 7, ground := Go.Ground.phase }, { on := 8, ground := Go.Ground.phase }, { on := 9, ground := Go.Ground.phase }, { on := 10, ground := Go.Ground.textOnly Go.Departure.lateStores }, { on := 11, ground := Go.Ground.textOnly Go.Departure.lateStores }, { on := 12, ground := Go.Ground.textOnly Go.Departure.lateStores }, { on := 13, ground := Go.Ground.textOnly Go.Departure.lateStoresUnsure }, { on := 14, ground := Go.Ground.phase }, { on := 15, ground := Go.Ground.phase }], guard := none }) rfl (fun K hK => ?_) AllReadyH.nil
                refine st_store (p := 13) (q := 73) (b := b13) (u := zW) (v := qd) rfl rfl rfl rfl P13.out.1 rfl (fun wn hrow hgr => ?_)
                replace P14 := Lib.hid (And.intro (keep_other P14.out.1 hgr (by have := D.out; omega)) P14.out.2)
                have HS2 := below_grown1 HS hgr P13.out.2
                replace P13 := Lib.hid (And.intro hrow P13.out.2)
                clear HS hrow hgr
                refine hK.out _ _ HS2 (fun HS => ?_)
                clear HS2 hK
                try simp only [Act.put, List.setIfInBounds_toArray, List.set_cons_zero, List.set_cons_succ]
                refine wpAnyH_ready (rs := [17]) (by kernel_rfl) (by simp) ?_
                refine AllReadyH.cons (o := { dst := none, op := Go.Op.store 26 (Go.Operand.tmp 14) (Go.Operand.tmp 77), type := 0, pos := "law.go:83", after := #[{ on := 15, ground := Go.Ground.data }, { on := 13, ground := Go.Ground.data }, { on := 16, ground := Go.Ground.chain }, { on := 0, ground := Go.Ground.phase }, { on := 1, ground := Go.Ground.phase }, { on := 2, ground := Go.Ground.phase }, { on := 3, ground := Go.Ground.phase }, { on := 4, ground := Go.Ground.phase }, { on := 5, ground := Go.Ground.phase }, { on := 6, ground := Go.Ground.phase }, { on := 7, ground := Go.Ground.phase }, { on := 8, ground := Go.Ground.phase }, { on := 9, ground := Go.Ground.phase }, { on := 10, ground := Go.Ground.phase }, { on := 11, ground := Go.Ground.phase }, { on := 12, ground := Go.Ground.phase }, { on := 13, ground := Go.Ground.phase }, { on := 14, ground := Go.Ground.phase }, { on := 15, ground := Go.Ground.phase }, { on := 16, ground := Go.Ground.phase }], guard := none }) rfl (fun K hK => ?_) AllReadyH.nil
                refine st_store (p := 14) (q := 77) (b := b14) (u := zW) (v := qd) rfl rfl rfl rfl P14.out.1 rfl (fun wn hrow hgr => ?_)
                replace P13 := Lib.hid (And.intro (keep_other P13.out.1 hgr (by have := D.out; omega)) P13.out.2)
                have HS2 := below_grown1 HS hgr P14.out.2
                replace P14 := Lib.hid (And.intro hrow P14.out.2)
                clear HS hrow hgr
                refine hK.out _ _ HS2 (fun HS => ?_)
                clear HS2 hK
                try simp only [Act.put, List.setIfInBounds_toArray, List.set_cons_zero, List.set_cons_succ]
                refine wpAnyH_done (by kernel_rfl) ?_ _
                refine NoPanic.normal ?_
                go_wp2
                go_meet
                case rel => exact ⟨b13, b14, rfl, rfl, P13.out.1, P14.out.1, HS⟩
              refine AllReadyH.cons (o := { dst := some 14, op := Go.Op.alloc 26, type := 0, pos := "law.go:83", after := #[], guard := none }) rfl (fun K hK => ?_) AllReadyH.nil
              refine st_alloc rfl rfl (fun b14 wn hge hrow hbel => ?_)
              have P14 := Lib.hid (And.intro hrow (Nat.le_trans HS.size hge))
              clear hrow hge
              have HS2 := HS.trans (hbel.mono HS.size)
              clear HS hbel
              refine hK.out _ _ HS2 (fun HS => ?_)
              clear HS2 hK
              try simp only [Act.put, List.setIfInBounds_toArray, List.set_cons_zero, List.set_cons_succ]
              refine wpAnyH_ready (rs := [13, 14]) (by kernel_rfl) (by simp) ?_
              refine AllReadyH.cons (o := { dst := some 77, op := Go.Op.call { callee := Go.Callee.value (Go.Operand.func 16), args := #[Go.Operand.tmp 74, Go.Operand.tmp 75, Go.Operand.tmp 76], argTypes := #[26, 2, 46] }, type := 26, pos := "law.go:83", after := #[{ on := 10, ground := Go.Ground.data }, { on := 11, ground := Go.Ground.data }, { on := 12, ground := Go.Ground.data }, { on := 9, ground := Go.Ground.chain }], guard := none }) rfl (fun K hK => ?_) ?_
              · skip
                go_simp
                refine (cT.out _).mono ?_; rintro e wn ⟨rfl, hbel⟩
                replace P14 := Lib.hid (And.intro (hp_on' P14.out.1 hbel) P14.out.2)
                have HS2 := HS.trans (hbel.mono HS.size)
                clear HS hbel
                refine hK.out _ _ HS2 (fun HS => ?_)
                clear HS2 hK
                try simp only [Act.put, List.setIfInBounds_toArray, List.set_cons_zero, List.set_cons_succ]
                refine wpAnyH_ready (rs := [14]) (by kernel_rfl) (by simp) ?_
                refine AllReadyH.cons (o := { dst := some 13, op := Go.Op.alloc 26, type := 0, pos := "law.go:83", after := #[], guard := none }) rfl (fun K hK => ?_) AllReadyH.nil
                refine st_alloc rfl rfl (fun b13 wn hge hrow hbel => ?_)
                have D : Hid (b13 ≠ b14) := Lib.hid (by have := (Array.getElem?_eq_some_iff.1 P14.out.1).1; omega)
                replace P14 := Lib.hid (And.intro (hp_on' P14.out.1 hbel) P14.out.2)
                have P13 := Lib.hid (And.intro hrow (Nat.le_trans HS.size hge))
                clear hrow hge
                have HS2 := HS.trans (hbel.mono HS.size)
                clear HS hbel
                refine hK.out _ _ HS2 (fun HS => ?_)
                clear HS2 hK
                try simp only [Act.put, List.setIfInBounds_toArray, List.set_cons_zero, List.set_cons_succ]
                refine wpAnyH_ready (rs := [16]) (by kernel_rfl) (by simp) ?_
                refine AllReadyH.cons (o := { dst := none, op := Go.Op.store 26 (Go.Operand.tmp 13) (Go.Operand.tmp 73), type := 0, pos := "law.go:83", after := #[{ on := 14, ground := Go.Ground.data }, { on := 9, ground := Go.Ground.data }, { on := 13, ground := Go.Ground.chain }, { on := 0, ground := Go.Ground.phase }, { on := 1, ground := Go.Ground.phase }, { on := 2, ground := Go.Ground.phase }, { on := 3, ground := Go.Ground.phase }, { on := 4, ground := Go.Ground.phase }, { on := 5, ground := Go.Ground.phase }, { on := 6, ground := Go.Ground.phase }, { on := 7, ground := Go.Ground.phase }, { on := 8, ground := Go.Ground.phase }, { on := 9, ground := Go.Ground.phase }, { on := 10, ground := Go.Ground.textOnly Go.Departure.lateStores }, { on := 11, ground := Go.Ground.textOnly Go.Departure.lateStores }, { on := 12, ground := Go.Ground.textOnly Go.Departure.lateStores }, { on := 13, ground := Go.Ground.textOnly Go.Departure.lateStoresUnsure }, { on := 14, ground := Go.Ground.phase }, { on := 15, ground := Go.Ground.phase }], guard := none }) rfl (fun K hK => ?_) AllReadyH.nil
                refine st_store (p := 13) (q := 73) (b := b13) (u := zW) (v := qd) rfl rfl rfl rfl P13.out.1 rfl (fun wn hrow hgr => ?_)
                replace P14 := Lib.hid (And.intro (keep_other P14.out.1 hgr (by have := D.out; omega)) P14.out.2)
                have HS2 := below_grown1 HS hgr P13.out.2
                replace P13 := Lib.hid (And.intro hrow P13.out.2)
                clear HS hrow hgr
                refine hK.out _ _ HS2 (fun HS => ?_)
                clear HS2 hK
                try simp only [Act.put, List.setIfInBounds_toArray, List.set_cons_zero, List.set_cons_succ]
                refine wpAnyH_ready (rs := [17]) (by kernel_rfl) (by simp) ?_
                refine AllReadyH.cons (o := { dst := none, op := Go.Op.store 26 (Go.Operand.tmp 14) (Go.Operand.tmp 77), type := 0, pos := "law.go:83", after := #[{ on := 15, ground := Go.Ground.data }, { on := 13, ground := Go.Ground.data }, { on := 16, ground := Go.Ground.chain }, { on := 0, ground := Go.Ground.phase }, { on := 1, ground := Go.Ground.phase }, { on := 2, ground := Go.Ground.phase }, { on := 3, ground := Go.Ground.phase }, { on := 4, ground := Go.Ground.phase }, { on := 5, ground := Go.Ground.phase }, { on := 6, ground := Go.Ground.phase }, { on := 7, ground := Go.Ground.phase }, { on := 8, ground := Go.Ground.phase }, { on := 9, ground := Go.Ground.phase }, { on := 10, ground := Go.Ground.phase }, { on := 11, ground := Go.Ground.phase }, { on := 12, ground := Go.Ground.phase }, { on := 13, ground := Go.Ground.phase }, { on := 14, ground := Go.Ground.phase }, { on := 15, ground := Go.Ground.phase }, { on := 16, ground := Go.Ground.phase }], guard := none }) rfl (fun K hK => ?_) AllReadyH.nil
                refine st_store (p := 14) (q := 77) (b := b14) (u := zW) (v := qd) rfl rfl rfl rfl P14.out.1 rfl (fun wn hrow hgr => ?_)
                replace P13 := Lib.hid (And.intro (keep_other P13.out.1 hgr (by have := D.out; omega)) P13.out.2)
                have HS2 := below_grown1 HS hgr P14.out.2
                replace P14 := Lib.hid (And.intro hrow P14.out.2)
                clear HS hrow hgr
                refine hK.out _ _ HS2 (fun HS => ?_)
                clear HS2 hK
                try simp only [Act.put, List.setIfInBounds_toArray, List.set_cons_zero, List.set_cons_succ]
                refine wpAnyH_done (by kernel_rfl) ?_ _
                refine NoPanic.normal ?_
                go_wp2
                go_meet
                case rel => exact ⟨b13, b14, rfl, rfl, P13.out.1, P14.out.1, HS⟩
              refine AllReadyH.cons (o := { dst := some 13, op := Go.Op.alloc 26, type := 0, pos := "law.go:83", after := #[], guard := none }) rfl (fun K hK => ?_) AllReadyH.nil
              refine st_alloc rfl rfl (fun b13 wn hge hrow hbel => ?_)
              have D : Hid (b13 ≠ b14) := Lib.hid (by have := (Array.getElem?_eq_some_iff.1 P14.out.1).1; omega)
              replace P14 := Lib.hid (And.intro (hp_on' P14.out.1 hbel) P14.out.2)
              have P13 := Lib.hid (And.intro hrow (Nat.le_trans HS.size hge))
              clear hrow hge
              have HS2 := HS.trans (hbel.mono HS.size)
              clear HS hbel
              refine hK.out _ _ HS2 (fun HS => ?_)
              clear HS2 hK
              try simp only [Act.put, List.setIfInBounds_toArray, List.set_cons_zero, List.set_cons_succ]
              refine wpAnyH_ready (rs := [13]) (by kernel_rfl) (by simp) ?_
              refine AllReadyH.cons (o := { dst := some 77, op := Go.Op.call { callee := Go.Callee.value (Go.Operand.func 16), args := #[Go.Operand.tmp 74, Go.Operand.tmp 75, Go.Operand.tmp 76], argTypes := #[26, 2, 46] }, type := 26, pos := "law.go:83", after := #[{ on := 10, ground := Go.Ground.data }, { on := 11, ground := Go.Ground.data }, { on := 12, ground := Go.Ground.data }, { on := 9, ground := Go.Ground.chain }], guard := none }) rfl (fun K hK => ?_) AllReadyH.nil
              go_simp
              refine (cT.out _).mono ?_; rintro e wn ⟨rfl, hbel⟩
              replace P13 := Lib.hid (And.intro (hp_on' P13.out.1 hbel) P13.out.2)
              replace P14 := Lib.hid (And.intro (hp_on' P14.out.1 hbel) P14.out.2)
              have HS2 := HS.trans (hbel.mono HS.size)
              clear HS hbel
              refine hK.out _ _ HS2 (fun HS => ?_)
              clear HS2 hK
              try simp only [Act.put, List.setIfInBounds_toArray, List.set_cons_zero, List.set_cons_succ]
              refine wpAnyH_ready (rs := [16]) (by kernel_rfl) (by simp) ?_
              refine AllReadyH.cons (o := { dst := none, op := Go.Op.store 26 (Go.Operand.tmp 13) (Go.Operand.tmp 73), type := 0, pos := "law.go:83", after := #[{ on := 14, ground := Go.Ground.data }, { on := 9, ground := Go.Ground.data }, { on := 13, ground := Go.Ground.chain }, { on := 0, ground := Go.Ground.phase }, { on := 1, ground := Go.Ground.phase }, { on := 2, ground := Go.Ground.phase }, { on := 3, ground := Go.Ground.phase }, { on := 4, ground := Go.Ground.phase }, { on := 5, ground := Go.Ground.phase }, { on := 6, ground := Go.Ground.phase }, { on := 7, ground := Go.Ground.phase }, { on := 8, ground := Go.Ground.phase }, { on := 9, ground := Go.Ground.phase }, { on := 10, ground := Go.Ground.textOnly Go.Departure.lateStores }, { on := 11, ground := Go.Ground.textOnly Go.Departure.lateStores }, { on := 12, ground := Go.Ground.textOnly Go.Departure.lateStores }, { on := 13, ground := Go.Ground.textOnly Go.Departure.lateStoresUnsure }, { on := 14, ground := Go.Ground.phase }, { on := 15, ground := Go.Ground.phase }], guard := none }) rfl (fun K hK => ?_) AllReadyH.nil
              refine st_store (p := 13) (q := 73) (b := b13) (u := zW) (v := qd) rfl rfl rfl rfl P13.out.1 rfl (fun wn hrow hgr => ?_)
              replace P14 := Lib.hid (And.intro (keep_other P14.out.1 hgr (by have := D.out; omega)) P14.out.2)
              have HS2 := below_grown1 HS hgr P13.out.2
              replace P13 := Lib.hid (And.intro hrow P13.out.2)
              clear HS hrow hgr
              refine hK.out _ _ HS2 (fun HS => ?_)
              clear HS2 hK
              try simp only [Act.put, List.setIfInBounds_toArray, List.set_cons_zero, List.set_cons_succ]
              refine wpAnyH_ready (rs := [17]) (by kernel_rfl) (by simp) ?_
              refine AllReadyH.cons (o := { dst := none, op := Go.Op.store 26 (Go.Operand.tmp 14) (Go.Operand.tmp 77), type := 0, pos := "law.go:83", after := #[{ on := 15, ground := Go.Ground.data }, { on := 13, ground := Go.Ground.data }, { on := 16, ground := Go.Ground.chain }, { on := 0, ground := Go.Ground.phase }, { on := 1, ground := Go.Ground.phase }, { on := 2, ground := Go.Ground.phase }, { on := 3, ground := Go.Ground.phase }, { on := 4, ground := Go.Ground.phase }, { on := 5, ground := Go.Ground.phase }, { on := 6, ground := Go.Ground.phase }, { on := 7, ground := Go.Ground.phase }, { on := 8, ground := Go.Ground.phase }, { on := 9, ground := Go.Ground.phase }, { on := 10, ground := Go.Ground.phase }, { on := 11, ground := Go.Ground.phase }, { on := 12, ground := Go.Ground.phase }, { on := 13, ground := Go.Ground.phase }, { on := 14, ground := Go.Ground.phase }, { on := 15, ground := Go.Ground.phase }, { on := 16, ground := Go.Ground.phase }], guard := none }) rfl (fun K hK => ?_) AllReadyH.nil
              refine st_store (p := 14) (q := 77) (b := b14) (u := zW) (v := qd) rfl rfl rfl rfl P14.out.1 rfl (fun wn hrow hgr => ?_)
              replace P13 := Lib.hid (And.intro (keep_other P13.out.1 hgr (by have := D.out; omega)) P13.out.2)
              have HS2 := below_grown1 HS hgr P14.out.2
              replace P14 := Lib.hid (And.intro hrow P14.out.2)
              clear HS hrow hgr
              refine hK.out _ _ HS2 (fun HS => ?_)
              clear HS2 hK
              try simp only [Act.put, List.setIfInBounds_toArray, List.set_cons_zero, List.set_cons_succ]
              refine wpAnyH_done (by kernel_rfl) ?_ _
              refine NoPanic.normal ?_
              go_wp2
              go_meet
              case rel => exact ⟨b13, b14, rfl, rfl, P13.out.1, P14.out.1, HS⟩
            refine AllReadyH.cons (o := { dst := some 13, op := Go.Op.alloc 26, type := 0, pos := "law.go:83", after := #[], guard := none }) rfl (fun K hK => ?_) ?_
            · skip
              refine st_alloc rfl rfl (fun b13 wn hge hrow hbel => ?_)
              replace RR := Lib.hid (RR.out.below hbel)
              have P13 := Lib.hid (And.intro hrow (Nat.le_trans HS.size hge))
              clear hrow hge
              have HS2 := HS.trans (hbel.mono HS.size)
              clear HS hbel
              refine hK.out _ _ HS2 (fun HS => ?_)
              clear HS2 hK
              try simp only [Act.put, List.setIfInBounds_toArray, List.set_cons_zero, List.set_cons_succ]
              refine wpAnyH_ready (rs := [9, 15]) (by kernel_rfl) (by simp) ?_
              refine AllReadyH.cons (o := { dst := some 73, op := Go.Op.call { callee := Go.Callee.value (Go.Operand.func 7), args := #[Go.Operand.tmp 72], argTypes := #[22] }, type := 26, pos := "law.go:83", after := #[{ on := 8, ground := Go.Ground.data }, { on := 8, ground := Go.Ground.chain }], guard := none }) rfl (fun K hK => ?_) ?_
              · skip
                go_simp
                refine (cD.out _ A7 c7 RR.out).mono ?_; rintro e wn ⟨rfl, hbel⟩
                clear RR
                replace P13 := Lib.hid (And.intro (hp_on' P13.out.1 hbel) P13.out.2)
                have HS2 := HS.trans (hbel.mono HS.size)
                clear HS hbel
                refine hK.out _ _ HS2 (fun HS => ?_)
                clear HS2 hK
                try simp only [Act.put, List.setIfInBounds_toArray, List.set_cons_zero, List.set_cons_succ]
                refine wpAnyH_ready (rs := [13, 15]) (by kernel_rfl) (by simp) ?_
                refine AllReadyH.cons (o := { dst := some 77, op := Go.Op.call { callee := Go.Callee.value (Go.Operand.func 16), args := #[Go.Operand.tmp 74, Go.Operand.tmp 75, Go.Operand.tmp 76], argTypes := #[26, 2, 46] }, type := 26, pos := "law.go:83", after := #[{ on := 10, ground := Go.Ground.data }, { on := 11, ground := Go.Ground.data }, { on := 12, ground := Go.Ground.data }, { on := 9, ground := Go.Ground.chain }], guard := none }) rfl (fun K hK => ?_) ?_
                · skip
                  go_simp
                  refine (cT.out _).mono ?_; rintro e wn ⟨rfl, hbel⟩
                  replace P13 := Lib.hid (And.intro (hp_on' P13.out.1 hbel) P13.out.2)
                  have HS2 := HS.trans (hbel.mono HS.size)
                  clear HS hbel
                  refine hK.out _ _ HS2 (fun HS => ?_)
                  clear HS2 hK
                  try simp only [Act.put, List.setIfInBounds_toArray, List.set_cons_zero, List.set_cons_succ]
                  refine wpAnyH_ready (rs := [15]) (by kernel_rfl) (by simp) ?_
                  refine AllReadyH.cons (o := { dst := some 14, op := Go.Op.alloc 26, type := 0, pos := "law.go:83", after := #[], guard := none }) rfl (fun K hK => ?_) AllReadyH.nil
                  refine st_alloc rfl rfl (fun b14 wn hge hrow hbel => ?_)
                  have D : Hid (b13 ≠ b14) := Lib.hid (by have := (Array.getElem?_eq_some_iff.1 P13.out.1).1; omega)
                  replace P13 := Lib.hid (And.intro (hp_on' P13.out.1 hbel) P13.out.2)
                  have P14 := Lib.hid (And.intro hrow (Nat.le_trans HS.size hge))
                  clear hrow hge
                  have HS2 := HS.trans (hbel.mono HS.size)
                  clear HS hbel
                  refine hK.out _ _ HS2 (fun HS => ?_)
                  clear HS2 hK
                  try simp only [Act.put, List.setIfInBounds_toArray, List.set_cons_zero, List.set_cons_succ]
                  refine wpAnyH_ready (rs := [16]) (by kernel_rfl) (by simp) ?_
                  refine AllReadyH.cons (o := { dst := none, op := Go.Op.store 26 (Go.Operand.tmp 13) (Go.Operand.tmp 73), type := 0, pos := "law.go:83", after := #[{ on := 14, ground := Go.Ground.data }, { on := 9, ground := Go.Ground.data }, { on := 13, ground := Go.Ground.chain }, { on := 0, ground := Go.Ground.phase }, { on := 1, ground := Go.Ground.phase }, { on := 2, ground := Go.Ground.phase }, { on := 3, ground := Go.Ground.phase }, { on := 4, ground := Go.Ground.phase }, { on := 5, ground := Go.Ground.phase }, { on := 6, ground := Go.Ground.phase }, { on := 7, ground := Go.Ground.phase }, { on := 8, ground := Go.Ground.phase }, { on := 9, ground := Go.Ground.phase }, { on := 10, ground := Go.Ground.textOnly Go.Departure.lateStores }, { on := 11, ground := Go.Ground.textOnly Go.Departure.lateStores }, { on := 12, ground := Go.Ground.textOnly Go.Departure.lateStores }, { on := 13, ground := Go.Ground.textOnly Go.Departure.lateStoresUnsure }, { on := 14, ground := Go.Ground.phase }, { on := 15, ground := Go.Ground.phase }], guard := none }) rfl (fun K hK => ?_) AllReadyH.nil
                  refine st_store (p := 13) (q := 73) (b := b13) (u := zW) (v := qd) rfl rfl rfl rfl P13.out.1 rfl (fun wn hrow hgr => ?_)
                  replace P14 := Lib.hid (And.intro (keep_other P14.out.1 hgr (by have := D.out; omega)) P14.out.2)
                  have HS2 := below_grown1 HS hgr P13.out.2
                  replace P13 := Lib.hid (And.intro hrow P13.out.2)
                  clear HS hrow hgr
                  refine hK.out _ _ HS2 (fun HS => ?_)
                  clear HS2 hK
                  try simp only [Act.put, List.setIfInBounds_toArray, List.set_cons_zero, List.set_cons_succ]
                  refine wpAnyH_ready (rs := [17]) (by kernel_rfl) (by simp) ?_
                  refine AllReadyH.cons (o := { dst := none, op := Go.Op.store 26 (Go.Operand.tmp 14) (Go.Operand.tmp 77), type := 0, pos := "law.go:83", after := #[{ on := 15, ground := Go.Ground.data }, { on := 13, ground := Go.Ground.data }, { on := 16, ground := Go.Ground.chain }, { on := 0, ground := Go.Ground.phase }, { on := 1, ground := Go.Ground.phase }, { on := 2, ground := Go.Ground.phase }, { on := 3, ground := Go.Ground.phase }, { on := 4, ground := Go.Ground.phase }, { on := 5, ground := Go.Ground.phase }, { on := 6, ground := Go.Ground.phase }, { on := 7, ground := Go.Ground.phase }, { on := 8, ground := Go.Ground.phase }, { on := 9, ground := Go.Ground.phase }, { on := 10, ground := Go.Ground.phase }, { on := 11, ground := Go.Ground.phase }, { on := 12, ground := Go.Ground.phase }, { on := 13, ground := Go.Ground.phase }, { on := 14, ground := Go.Ground.phase }, { on := 15, ground := Go.Ground.phase }, { on := 16, ground := Go.Ground.phase }], guard := none }) rfl (fun K hK => ?_) AllReadyH.nil
                  refine st_store (p := 14) (q := 77) (b := b14) (u := zW) (v := qd) rfl rfl rfl rfl P14.out.1 rfl (fun wn hrow hgr => ?_)
                  replace P13 := Lib.hid (And.intro (keep_other P13.out.1 hgr (by have := D.out; omega)) P13.out.2)
                  have HS2 := below_grown1 HS hgr P14.out.2
                  replace P14 := Lib.hid (And.intro hrow P14.out.2)
                  clear HS hrow hgr
                  refine hK.out _ _ HS2 (fun HS => ?_)
                  clear HS2 hK
                  try simp only [Act.put, List.setIfInBounds_toArray, List.set_cons_zero, List.set_cons_succ]
                  refine wpAnyH_done (by kernel_rfl) ?_ _
                  refine NoPanic.normal ?_
                  go_wp2
                  go_meet
                  case rel => exact ⟨b13, b14, rfl, rfl, P13.out.1, P14.out.1, HS⟩
                refine AllReadyH.cons (o := { dst := some 14, op := Go.Op.alloc 26, type := 0, pos := "law.go:83", after := #[], guard := none }) rfl (fun K hK => ?_) AllReadyH.nil
                refine st_alloc rfl rfl (fun b14 wn hge hrow hbel => ?_)
                have D : Hid (b13 ≠ b14) := Lib.hid (by have := (Array.getElem?_eq_some_iff.1 P13.out.1).1; omega)
                replace P13 := Lib.hid (And.intro (hp_on' P13.out.1 hbel) P13.out.2)
                have P14 := Lib.hid (And.intro hrow (Nat.le_trans HS.size hge))
                clear hrow hge
                have HS2 := HS.trans (hbel.mono HS.size)
                clear HS hbel
                refine hK.out _ _ HS2 (fun HS => ?_)
                clear HS2 hK
                try simp only [Act.put, List.setIfInBounds_toArray, List.set_cons_zero, List.set_cons_succ]
                refine wpAnyH_ready (rs := [13]) (by kernel_rfl) (by simp) ?_
                refine AllReadyH.cons (o := { dst := some 77, op := Go.Op.call { callee := Go.Callee.value (Go.Operand.func 16), args := #[Go.Operand.tmp 74, Go.Operand.tmp 75, Go.Operand.tmp 76], argTypes := #[26, 2, 46] }, type := 26, pos := "law.go:83", after := #[{ on := 10, ground := Go.Ground.data }, { on := 11, ground := Go.Ground.data }, { on := 12, ground := Go.Ground.data }, { on := 9, ground := Go.Ground.chain }], guard := none }) rfl (fun K hK => ?_) AllReadyH.nil
                go_simp
                refine (cT.out _).mono ?_; rintro e wn ⟨rfl, hbel⟩
                replace P13 := Lib.hid (And.intro (hp_on' P13.out.1 hbel) P13.out.2)
                replace P14 := Lib.hid (And.intro (hp_on' P14.out.1 hbel) P14.out.2)
                have HS2 := HS.trans (hbel.mono HS.size)
                clear HS hbel
                refine hK.out _ _ HS2 (fun HS => ?_)
                clear HS2 hK
                try simp only [Act.put, List.setIfInBounds_toArray, List.set_cons_zero, List.set_cons_succ]
                refine wpAnyH_ready (rs := [16]) (by kernel_rfl) (by simp) ?_
                refine AllReadyH.cons (o := { dst := none, op := Go.Op.store 26 (Go.Operand.tmp 13) (Go.Operand.tmp 73), type := 0, pos := "law.go:83", after := #[{ on := 14, ground := Go.Ground.data }, { on := 9, ground := Go.Ground.data }, { on := 13, ground := Go.Ground.chain }, { on := 0, ground := Go.Ground.phase }, { on := 1, ground := Go.Ground.phase }, { on := 2, ground := Go.Ground.phase }, { on := 3, ground := Go.Ground.phase }, { on := 4, ground := Go.Ground.phase }, { on := 5, ground := Go.Ground.phase }, { on := 6, ground := Go.Ground.phase }, { on := 7, ground := Go.Ground.phase }, { on := 8, ground := Go.Ground.phase }, { on := 9, ground := Go.Ground.phase }, { on := 10, ground := Go.Ground.textOnly Go.Departure.lateStores }, { on := 11, ground := Go.Ground.textOnly Go.Departure.lateStores }, { on := 12, ground := Go.Ground.textOnly Go.Departure.lateStores }, { on := 13, ground := Go.Ground.textOnly Go.Departure.lateStoresUnsure }, { on := 14, ground := Go.Ground.phase }, { on := 15, ground := Go.Ground.phase }], guard := none }) rfl (fun K hK => ?_) AllReadyH.nil
                refine st_store (p := 13) (q := 73) (b := b13) (u := zW) (v := qd) rfl rfl rfl rfl P13.out.1 rfl (fun wn hrow hgr => ?_)
                replace P14 := Lib.hid (And.intro (keep_other P14.out.1 hgr (by have := D.out; omega)) P14.out.2)
                have HS2 := below_grown1 HS hgr P13.out.2
                replace P13 := Lib.hid (And.intro hrow P13.out.2)
                clear HS hrow hgr
                refine hK.out _ _ HS2 (fun HS => ?_)
                clear HS2 hK
                try simp only [Act.put, List.setIfInBounds_toArray, List.set_cons_zero, List.set_cons_succ]
                refine wpAnyH_ready (rs := [17]) (by kernel_rfl) (by simp) ?_
                refine AllReadyH.cons (o := { dst := none, op := Go.Op.store 26 (Go.Operand.tmp 14) (Go.Operand.tmp 77), type := 0, pos := "law.go:83", after := #[{ on := 15, ground := Go.Ground.data }, { on := 13, ground := Go.Ground.data }, { on := 16, ground := Go.Ground.chain }, { on := 0, ground := Go.Ground.phase }, { on := 1, ground := Go.Ground.phase }, { on := 2, ground := Go.Ground.phase }, { on := 3, ground := Go.Ground.phase }, { on := 4, ground := Go.Ground.phase }, { on := 5, ground := Go.Ground.phase }, { on := 6, ground := Go.Ground.phase }, { on := 7, ground := Go.Ground.phase }, { on := 8, ground := Go.Ground.phase }, { on := 9, ground := Go.Ground.phase }, { on := 10, ground := Go.Ground.phase }, { on := 11, ground := Go.Ground.phase }, { on := 12, ground := Go.Ground.phase }, { on := 13, ground := Go.Ground.phase }, { on := 14, ground := Go.Ground.phase }, { on := 15, ground := Go.Ground.phase }, { on := 16, ground := Go.Ground.phase }], guard := none }) rfl (fun K hK => ?_) AllReadyH.nil
                refine st_store (p := 14) (q := 77) (b := b14) (u := zW) (v := qd) rfl rfl rfl rfl P14.out.1 rfl (fun wn hrow hgr => ?_)
                replace P13 := Lib.hid (And.intro (keep_other P13.out.1 hgr (by have := D.out; omega)) P13.out.2)
                have HS2 := below_grown1 HS hgr P14.out.2
                replace P14 := Lib.hid (And.intro hrow P14.out.2)
                clear HS hrow hgr
                refine hK.out _ _ HS2 (fun HS => ?_)
                clear HS2 hK
                try simp only [Act.put, List.setIfInBounds_toArray, List.set_cons_zero, List.set_cons_succ]
                refine wpAnyH_done (by kernel_rfl) ?_ _
                refine NoPanic.normal ?_
                go_wp2
                go_meet
                case rel => exact ⟨b13, b14, rfl, rfl, P13.out.1, P14.out.1, HS⟩
              refine AllReadyH.cons (o := { dst := some 14, op := Go.Op.alloc 26, type := 0, pos := "law.go:83", after := #[], guard := none }) rfl (fun K hK => ?_) AllReadyH.nil
              refine st_alloc rfl rfl (fun b14 wn hge hrow hbel => ?_)
              have D : Hid (b13 ≠ b14) := Lib.hid (by have := (Array.getElem?_eq_some_iff.1 P13.out.1).1; omega)
              replace RR := Lib.hid (RR.out.below hbel)
              replace P13 := Lib.hid (And.intro (hp_on' P13.out.1 hbel) P13.out.2)
              have P14 := Lib.hid (And.intro hrow (Nat.le_trans HS.size hge))
              clear hrow hge
              have HS2 := HS.trans (hbel.mono HS.size)
              clear HS hbel
              refine hK.out _ _ HS2 (fun HS => ?_)
              clear HS2 hK
              try simp only [Act.put, List.setIfInBounds_toArray, List.set_cons_zero, List.set_cons_succ]
              refine wpAnyH_ready (rs := [9]) (by kernel_rfl) (by simp) ?_
              refine AllReadyH.cons (o := { dst := some 73, op := Go.Op.call { callee := Go.Callee.value (Go.Operand.func 7), args := #[Go.Operand.tmp 72], argTypes := #[22] }, type := 26, pos := "law.go:83", after := #[{ on := 8, ground := Go.Ground.data }, { on := 8, ground := Go.Ground.chain }], guard := none }) rfl (fun K hK => ?_) AllReadyH.nil
              go_simp
              refine (cD.out _ A7 c7 RR.out).mono ?_; rintro e wn ⟨rfl, hbel⟩
              clear RR
              replace P13 := Lib.hid (And.intro (hp_on' P13.out.1 hbel) P13.out.2)
              replace P14 := Lib.hid (And.intro (hp_on' P14.out.1 hbel) P14.out.2)
              have HS2 := HS.trans (hbel.mono HS.size)
              clear HS hbel
              refine hK.out _ _ HS2 (fun HS => ?_)
              clear HS2 hK
              try simp only [Act.put, List.setIfInBounds_toArray, List.set_cons_zero, List.set_cons_succ]
              refine wpAnyH_ready (rs := [13]) (by kernel_rfl) (by simp) ?_
              refine AllReadyH.cons (o := { dst := some 77, op := Go.Op.call { callee := Go.Callee.value (Go.Operand.func 16), args := #[Go.Operand.tmp 74, Go.Operand.tmp 75, Go.Operand.tmp 76], argTypes := #[26, 2, 46] }, type := 26, pos := "law.go:83", after := #[{ on := 10, ground := Go.Ground.data }, { on := 11, ground := Go.Ground.data }, { on := 12, ground := Go.Ground.data }, { on := 9, ground := Go.Ground.chain }], guard := none }) rfl (fun K hK => ?_) AllReadyH.nil
              go_simp
              refine (cT.out _).mono ?_; rintro e wn ⟨rfl, hbel⟩
              replace P13 := Lib.hid (And.intro (hp_on' P13.out.1 hbel) P13.out.2)
              replace P14 := Lib.hid (And.intro (hp_on' P14.out.1 hbel) P14.out.2)
              have HS2 := HS.trans (hbel.mono HS.size)
              clear HS hbel
              refine hK.out _ _ HS2 (fun HS => ?_)
              clear HS2 hK
              try simp only [Act.put, List.setIfInBounds_toArray, List.set_cons_zero, List.set_cons_succ]
              refine wpAnyH_ready (rs := [16]) (by kernel_rfl) (by simp) ?_
              refine AllReadyH.cons (o := { dst := none, op := Go.Op.store 26 (Go.Operand.tmp 13) (Go.Operand.tmp 73), type := 0, pos := "law.go:83", after := #[{ on := 14, ground := Go.Ground.data }, { on := 9, ground := Go.Ground.data }, { on := 13, ground := Go.Ground.chain }, { on := 0, ground := Go.Ground.phase }, { on := 1, ground := Go.Ground.phase }, { on := 2, ground := Go.Ground.phase }, { on := 3, ground := Go.Ground.phase }, { on := 4, ground := Go.Ground.phase }, { on := 5, ground := Go.Ground.phase }, { on := 6, ground := Go.Ground.phase }, { on := 7, ground := Go.Ground.phase }, { on := 8, ground := Go.Ground.phase }, { on := 9, ground := Go.Ground.phase }, { on := 10, ground := Go.Ground.textOnly Go.Departure.lateStores }, { on := 11, ground := Go.Ground.textOnly Go.Departure.lateStores }, { on := 12, ground := Go.Ground.textOnly Go.Departure.lateStores }, { on := 13, ground := Go.Ground.textOnly Go.Departure.lateStoresUnsure }, { on := 14, ground := Go.Ground.phase }, { on := 15, ground := Go.Ground.phase }], guard := none }) rfl (fun K hK => ?_) AllReadyH.nil
              refine st_store (p := 13) (q := 73) (b := b13) (u := zW) (v := qd) rfl rfl rfl rfl P13.out.1 rfl (fun wn hrow hgr => ?_)
              replace P14 := Lib.hid (And.intro (keep_other P14.out.1 hgr (by have := D.out; omega)) P14.out.2)
              have HS2 := below_grown1 HS hgr P13.out.2
              replace P13 := Lib.hid (And.intro hrow P13.out.2)
              clear HS hrow hgr
              refine hK.out _ _ HS2 (fun HS => ?_)
              clear HS2 hK
              try simp only [Act.put, List.setIfInBounds_toArray, List.set_cons_zero, List.set_cons_succ]
              refine wpAnyH_ready (rs := [17]) (by kernel_rfl) (by simp) ?_
              refine AllReadyH.cons (o := { dst := none, op := Go.Op.store 26 (Go.Operand.tmp 14) (Go.Operand.tmp 77), type := 0, pos := "law.go:83", after := #[{ on := 15, ground := Go.Ground.data }, { on := 13, ground := Go.Ground.data }, { on := 16, ground := Go.Ground.chain }, { on := 0, ground := Go.Ground.phase }, { on := 1, ground := Go.Ground.phase }, { on := 2, ground := Go.Ground.phase }, { on := 3, ground := Go.Ground.phase }, { on := 4, ground := Go.Ground.phase }, { on := 5, ground := Go.Ground.phase }, { on := 6, ground := Go.Ground.phase }, { on := 7, ground := Go.Ground.phase }, { on := 8, ground := Go.Ground.phase }, { on := 9, ground := Go.Ground.phase }, { on := 10, ground := Go.Ground.phase }, { on := 11, ground := Go.Ground.phase }, { on := 12, ground := Go.Ground.phase }, { on := 13, ground := Go.Ground.phase }, { on := 14, ground := Go.Ground.phase }, { on := 15, ground := Go.Ground.phase }, { on := 16, ground := Go.Ground.phase }], guard := none }) rfl (fun K hK => ?_) AllReadyH.nil
              refine st_store (p := 14) (q := 77) (b := b14) (u := zW) (v := qd) rfl rfl rfl rfl P14.out.1 rfl (fun wn hrow hgr => ?_)
              replace P13 := Lib.hid (And.intro (keep_other P13.out.1 hgr (by have := D.out; omega)) P13.out.2)
              have HS2 := below_grown1 HS hgr P14.out.2
              replace P14 := Lib.hid (And.intro hrow P14.out.2)
              clear HS hrow hgr
              refine hK.out _ _ HS2 (fun HS => ?_)
              clear HS2 hK
              try simp only [Act.put, List.setIfInBounds_toArray, List.set_cons_zero, List.set_cons_succ]
              refine wpAnyH_done (by kernel_rfl) ?_ _
              refine NoPanic.normal ?_
              go_wp2
              go_meet
              case rel => exact ⟨b13, b14, rfl, rfl, P13.out.1, P14.out.1, HS⟩
            refine AllReadyH.cons (o := { dst := some 14, op := Go.Op.alloc 26, type := 0, pos := "law.go:83", after := #[], guard := none }) rfl (fun K hK => ?_) AllReadyH.nil
            refine st_alloc rfl rfl (fun b14 wn hge hrow hbel => ?_)
            replace RR := Lib.hid (RR.out.below hbel)
            have P14 := Lib.hid (And.intro hrow (Nat.le_trans HS.size hge))
            clear hrow hge
            have HS2 := HS.trans (hbel.mono HS.size)
            clear HS hbel
            refine hK.out _ _ HS2 (fun HS => ?_)
            clear HS2 hK
            try simp only [Act.put, List.setIfInBounds_toArray, List.set_cons_zero, List.set_cons_succ]
            refine wpAnyH_ready (rs := [9, 14]) (by kernel_rfl) (by simp) ?_
            refine AllReadyH.cons (o := { dst := some 73, op := Go.Op.call { callee := Go.Callee.value (Go.Operand.func 7), args := #[Go.Operand.tmp 72], argTypes := #[22] }, type := 26, pos := "law.go:83", after := #[{ on := 8, ground := Go.Ground.data }, { on := 8, ground := Go.Ground.chain }], guard := none }) rfl (fun K hK => ?_) ?_
            · skip
              go_simp
              refine (cD.out _ A7 c7 RR.out).mono ?_; rintro e wn ⟨rfl, hbel⟩
              clear RR
              replace P14 := Lib.hid (And.intro (hp_on' P14.out.1 hbel) P14.out.2)
              have HS2 := HS.trans (hbel.mono HS.size)
              clear HS hbel
              refine hK.out _ _ HS2 (fun HS => ?_)
              clear HS2 hK
              try simp only [Act.put, List.setIfInBounds_toArray, List.set_cons_zero, List.set_cons_succ]
              refine wpAnyH_ready (rs := [13, 14]) (by kernel_rfl) (by simp) ?_
              refine AllReadyH.cons (o := { dst := some 77, op := Go.Op.call { callee := Go.Callee.value (Go.Operand.func 16), args := #[Go.Operand.tmp 74, Go.Operand.tmp 75, Go.Operand.tmp 76], argTypes := #[26, 2, 46] }, type := 26, pos := "law.go:83", after := #[{ on := 10, ground := Go.Ground.data }, { on := 11, ground := Go.Ground.data }, { on := 12, ground := Go.Ground.data }, { on := 9, ground := Go.Ground.chain }], guard := none }) rfl (fun K hK => ?_) ?_
              · skip
                go_simp
                refine (cT.out _).mono ?_; rintro e wn ⟨rfl, hbel⟩
                replace P14 := Lib.hid (And.intro (hp_on' P14.out.1 hbel) P14.out.2)
                have HS2 := HS.trans (hbel.mono HS.size)
                clear HS hbel
                refine hK.out _ _ HS2 (fun HS => ?_)
                clear HS2 hK
                try simp only [Act.put, List.setIfInBounds_toArray, List.set_cons_zero, List.set_cons_succ]
                refine wpAnyH_ready (rs := [14]) (by kernel_rfl) (by simp) ?_
                refine AllReadyH.cons (o := { dst := some 13, op := Go.Op.alloc 26, type := 0, pos := "law.go:83", after := #[], guard := none }) rfl (fun K hK => ?_) AllReadyH.nil
                refine st_alloc rfl rfl (fun b13 wn hge hrow hbel => ?_)
                have D : Hid (b13 ≠ b14) := Lib.hid (by have := (Array.getElem?_eq_some_iff.1 P14.out.1).1; omega)
                replace P14 := Lib.hid (And.intro (hp_on' P14.out.1 hbel) P14.out.2)
                have P13 := Lib.hid (And.intro hrow (Nat.le_trans HS.size hge))
                clear hrow hge
                have HS2 := HS.trans (hbel.mono HS.size)
                clear HS hbel
                refine hK.out _ _ HS2 (fun HS => ?_)
                clear HS2 hK
                try simp only [Act.put, List.setIfInBounds_toArray, List.set_cons_zero, List.set_cons_succ]
                refine wpAnyH_ready (rs := [16]) (by kernel_rfl) (by simp) ?_
                refine AllReadyH.cons (o := { dst := none, op := Go.Op.store 26 (Go.Operand.tmp 13) (Go.Operand.tmp 73), type := 0, pos := "law.go:83", after := #[{ on := 14, ground := Go.Ground.data }, { on := 9, ground := Go.Ground.data }, { on := 13, ground := Go.Ground.chain }, { on := 0, ground := Go.Ground.phase }, { on := 1, ground := Go.Ground.phase }, { on := 2, ground := Go.Ground.phase }, { on := 3, ground := Go.Ground.phase }, { on := 4, ground := Go.Ground.phase }, { on := 5, ground := Go.Ground.phase }, { on := 6, ground := Go.Ground.phase }, { on := 7, ground := Go.Ground.phase }, { on := 8, ground := Go.Ground.phase }, { on := 9, ground := Go.Ground.phase }, { on := 10, ground := Go.Ground.textOnly Go.Departure.lateStores }, { on := 11, ground := Go.Ground.textOnly Go.Departure.lateStores }, { on := 12, ground := Go.Ground.textOnly Go.Departure.lateStores }, { on := 13, ground := Go.Ground.textOnly Go.Departure.lateStoresUnsure }, { on := 14, ground := Go.Ground.phase }, { on := 15, ground := Go.Ground.phase }], guard := none }) rfl (fun K hK => ?_) AllReadyH.nil
                refine st_store (p := 13) (q := 73) (b := b13) (u := zW) (v := qd) rfl rfl rfl rfl P13.out.1 rfl (fun wn hrow hgr => ?_)
                replace P14 := Lib.hid (And.intro (keep_other P14.out.1 hgr (by have := D.out; omega)) P14.out.2)
                have HS2 := below_grown1 HS hgr P13.out.2
                replace P13 := Lib.hid (And.intro hrow P13.out.2)
                clear HS hrow hgr
                refine hK.out _ _ HS2 (fun HS => ?_)
                clear HS2 hK
                try simp only [Act.put, List.setIfInBounds_toArray, List.set_cons_zero, List.set_cons_succ]
                refine wpAnyH_ready (rs := [17]) (by kernel_rfl) (by simp) ?_
                refine AllReadyH.cons (o := { dst := none, op := Go.Op.store 26 (Go.Operand.tmp 14) (Go.Operand.tmp 77), type := 0, pos := "law.go:83", after := #[{ on := 15, ground := Go.Ground.data }, { on := 13, ground := Go.Ground.data }, { on := 16, ground := Go.Ground.chain }, { on := 0, ground := Go.Ground.phase }, { on := 1, ground := Go.Ground.phase }, { on := 2, ground := Go.Ground.phase }, { on := 3, ground := Go.Ground.phase }, { on := 4, ground := Go.Ground.phase }, { on := 5, ground := Go.Ground.phase }, { on := 6, ground := Go.Ground.phase }, { on := 7, ground := Go.Ground.phase }, { on := 8, ground := Go.Ground.phase }, { on := 9, ground := Go.Ground.phase }, { on := 10, ground := Go.Ground.phase }, { on := 11, ground := Go.Ground.phase }, { on := 12, ground := Go.Ground.phase }, { on := 13, ground := Go.Ground.phase }, { on := 14, ground := Go.Ground.phase }, { on := 15, ground := Go.Ground.phase }, { on := 16, ground := Go.Ground.phase }], guard := none }) rfl (fun K hK => ?_) AllReadyH.nil
                refine st_store (p := 14) (q := 77) (b := b14) (u := zW) (v := qd) rfl rfl rfl rfl P14.out.1 rfl (fun wn hrow hgr => ?_)
                replace P13 := Lib.hid (And.intro (keep_other P13.out.1 hgr (by have := D.out; omega)) P13.out.2)
                have HS2 := below_grown1 HS hgr P14.out.2
                replace P14 := Lib.hid (And.intro hrow P14.out.2)
                clear HS hrow hgr
                refine hK.out _ _ HS2 (fun HS => ?_)
                clear HS2 hK
                try simp only [Act.put, List.setIfInBounds_toArray, List.set_cons_zero, List.set_cons_succ]
                refine wpAnyH_done (by kernel_rfl) ?_ _
                refine NoPanic.normal ?_
                go_wp2
                go_meet
                case rel => exact ⟨b13, b14, rfl, rfl, P13.out.1, P14.out.1, HS⟩
              refine AllReadyH.cons (o := { dst := some 13, op := Go.Op.alloc 26, type := 0, pos := "law.go:83", after := #[], guard := none }) rfl (fun K hK => ?_) AllReadyH.nil
              refine st_alloc rfl rfl (fun b13 wn hge hrow hbel => ?_)
              have D : Hid (b13 ≠ b14) := Lib.hid (by have := (Array.getElem?_eq_some_iff.1 P14.out.1).1; omega)
              replace P14 := Lib.hid (And.intro (hp_on' P14.out.1 hbel) P14.out.2)
              have P13 := Lib.hid (And.intro hrow (Nat.le_trans HS.size hge))
              clear hrow hge
              have HS2 := HS.trans (hbel.mono HS.size)
              clear HS hbel
              refine hK.out _ _ HS2 (fun HS => ?_)
              clear HS2 hK
              try simp only [Act.put, List.setIfInBounds_toArray, List.set_cons_zero, List.set_cons_succ]
              refine wpAnyH_ready (rs := [13]) (by kernel_rfl) (by simp) ?_
              refine AllReadyH.cons (o := { dst := some 77, op := Go.Op.call { callee := Go.Callee.value (Go.Operand.func 16), args := #[Go.Operand.tmp 74, Go.Operand.tmp 75, Go.Operand.tmp 76], argTypes := #[26, 2, 46] }, type := 26, pos := "law.go:83", after := #[{ on := 10, ground := Go.Ground.data }, { on := 11, ground := Go.Ground.data }, { on := 12, ground := Go.Ground.data }, { on := 9, ground := Go.Ground.chain }], guard := none }) rfl (fun K hK => ?_) AllReadyH.nil
              go_simp
              refine (cT.out _).mono ?_; rintro e wn ⟨rfl, hbel⟩
              replace P13 := Lib.hid (And.intro (hp_on' P13.out.1 hbel) P13.out.2)
              replace P14 := Lib.hid (And.intro (hp_on' P14.out.1 hbel) P14.out.2)
              have HS2 := HS.trans (hbel.mono HS.size)
              clear HS hbel
              refine hK.out _ _ HS2 (fun HS => ?_)
              clear HS2 hK
              try simp only [Act.put, List.setIfInBounds_toArray, List.set_cons_zero, List.set_cons_succ]
              refine wpAnyH_ready (rs := [16]) (by kernel_rfl) (by simp) ?_
              refine AllReadyH.cons (o := { dst := none, op := Go.Op.store 26 (Go.Operand.tmp 13) (Go.Operand.tmp 73), type := 0, pos := "law.go:83", after := #[{ on := 14, ground := Go.Ground.data }, { on := 9, ground := Go.Ground.data }, { on := 13, ground := Go.Ground.chain }, { on := 0, ground := Go.Ground.phase }, { on := 1, ground := Go.Ground.phase }, { on := 2, ground := Go.Ground.phase }, { on := 3, ground := Go.Ground.phase }, { on := 4, ground := Go.Ground.phase }, { on := 5, ground := Go.Ground.phase }, { on := 6, ground := Go.Ground.phase }, { on := 7, ground := Go.Ground.phase }, { on := 8, ground := Go.Ground.phase }, { on := 9, ground := Go.Ground.phase }, { on := 10, ground := Go.Ground.textOnly Go.Departure.lateStores }, { on := 11, ground := Go.Ground.textOnly Go.Departure.lateStores }, { on := 12, ground := Go.Ground.textOnly Go.Departure.lateStores }, { on := 13, ground := Go.Ground.textOnly Go.Departure.lateStoresUnsure }, { on := 14, ground := Go.Ground.phase }, { on := 15, ground := Go.Ground.phase }], guard := none }) rfl (fun K hK => ?_) AllReadyH.nil
              refine st_store (p := 13) (q := 73) (b := b13) (u := zW) (v := qd) rfl rfl rfl rfl P13.out.1 rfl (fun wn hrow hgr => ?_)
              replace P14 := Lib.hid (And.intro (keep_other P14.out.1 hgr (by have := D.out; omega)) P14.out.2)
              have HS2 := below_grown1 HS hgr P13.out.2
              replace P13 := Lib.hid (And.intro hrow P13.out.2)
              clear HS hrow hgr
              refine hK.out _ _ HS2 (fun HS => ?_)
              clear HS2 hK
              try simp only [Act.put, List.setIfInBounds_toArray, List.set_cons_zero, List.set_cons_succ]
              refine wpAnyH_ready (rs := [17]) (by kernel_rfl) (by simp) ?_
              refine AllReadyH.cons (o := { dst := none, op := Go.Op.store 26 (Go.Operand.tmp 14) (Go.Operand.tmp 77), type := 0, pos := "law.go:83", after := #[{ on := 15, ground := Go.Ground.data }, { on := 13, ground := Go.Ground.data }, { on := 16, ground := Go.Ground.chain }, { on := 0, ground := Go.Ground.phase }, { on := 1, ground := Go.Ground.phase }, { on := 2, ground := Go.Ground.phase }, { on := 3, ground := Go.Ground.phase }, { on := 4, ground := Go.Ground.phase }, { on := 5, ground := Go.Ground.phase }, { on := 6, ground := Go.Ground.phase }, { on := 7, ground := Go.Ground.phase }, { on := 8, ground := Go.Ground.phase }, { on := 9, ground := Go.Ground.phase }, { on := 10, ground := Go.Ground.phase }, { on := 11, ground := Go.Ground.phase }, { on := 12, ground := Go.Ground.phase }, { on := 13, ground := Go.Ground.phase }, { on := 14, ground := Go.Ground.phase }, { on := 15, ground := Go.Ground.phase }, { on := 16, ground := Go.Ground.phase }], guard := none }) rfl (fun K hK => ?_) AllReadyH.nil
              refine st_store (p := 14) (q := 77) (b := b14) (u := zW) (v := qd) rfl rfl rfl rfl P14.out.1 rfl (fun wn hrow hgr => ?_)
              replace P13 := Lib.hid (And.intro (keep_other P13.out.1 hgr (by have := D.out; omega)) P13.out.2)
              have HS2 := below_grown1 HS hgr P14.out.2
              replace P14 := Lib.hid (And.intro hrow P14.out.2)
              clear HS hrow hgr
              refine hK.out _ _ HS2 (fun HS => ?_)
              clear HS2 hK
              try simp only [Act.put, List.setIfInBounds_toArray, List.set_cons_zero, List.set_cons_succ]
              refine wpAnyH_done (by kernel_rfl) ?_ _
              refine NoPanic.normal ?_
              go_wp2
              go_meet
              case rel => exact ⟨b13, b14, rfl, rfl, P13.out.1, P14.out.1, HS⟩
            refine AllReadyH.cons (o := { dst := some 13, op := Go.Op.alloc 26, type := 0, pos := "law.go:83", after := #[], guard := none }) rfl (fun K hK => ?_) AllReadyH.nil
            refine st_alloc rfl rfl (fun b13 wn hge hrow hbel => ?_)
            have D : Hid (b13 ≠ b14) := Lib.hid (by have := (Array.getElem?_eq_some_iff.1 P14.out.1).1; omega)
            replace RR := Lib.hid (RR.out.below hbel)
            replace P14 := Lib.hid (And.intro (hp_on' P14.out.1 hbel) P14.out.2)
            have P13 := Lib.hid (And.intro hrow (Nat.le_trans HS.size hge))
            clear hrow hge
            have HS2 := HS.trans (hbel.mono HS.size)
            clear HS hbel
            refine hK.out _ _ HS2 (fun HS => ?_)
            clear HS2 hK
            try simp only [Act.put, List.setIfInBounds_toArray, List.set_cons_zero, List.set_cons_succ]
            refine wpAnyH_ready (rs := [9]) (by kernel_rfl) (by simp) ?_
            refine AllReadyH.cons (o := { dst := some 73, op := Go.Op.call { callee := Go.Callee.value (Go.Operand.func 7), args := #[Go.Operand.tmp 72], argTypes := #[22] }, type := 26, pos := "law.go:83", after := #[{ on := 8, ground := Go.Ground.data }, { on := 8, ground := Go.Ground.chain }], guard := none }) rfl (fun K hK => ?_) AllReadyH.nil
            go_simp
            refine (cD.out _ A7 c7 RR.out).mono ?_; rintro e wn ⟨rfl, hbel⟩
            clear RR
            replace P13 := Lib.hid (And.intro (hp_on' P13.out.1 hbel) P13.out.2)
            replace P14 := Lib.hid (And.intro (hp_on' P14.out.1 hbel) P14.out.2)
            have HS2 := HS.trans (hbel.mono HS.size)
            clear HS hbel
            refine hK.out _ _ HS2 (fun HS => ?_)
            clear HS2 hK
            try simp only [Act.put, List.setIfInBounds_toArray, List.set_cons_zero, List.set_cons_succ]
            refine wpAnyH_ready (rs := [13]) (by kernel_rfl) (by simp) ?_
            refine AllReadyH.cons (o := { dst := some 77, op := Go.Op.call { callee := Go.Callee.value (Go.Operand.func 16), args := #[Go.Operand.tmp 74, Go.Operand.tmp 75, Go.Operand.tmp 76], argTypes := #[26, 2, 46] }, type := 26, pos := "law.go:83", after := #[{ on := 10, ground := Go.Ground.data }, { on := 11, ground := Go.Ground.data }, { on := 12, ground := Go.Ground.data }, { on := 9, ground := Go.Ground.chain }], guard := none }) rfl (fun K hK => ?_) AllReadyH.nil
            go_simp
            refine (cT.out _).mono ?_; rintro e wn ⟨rfl, hbel⟩
            replace P13 := Lib.hid (And.intro (hp_on' P13.out.1 hbel) P13.out.2)
            replace P14 := Lib.hid (And.intro (hp_on' P14.out.1 hbel) P14.out.2)
            have HS2 := HS.trans (hbel.mono HS.size)
            clear HS hbel
            refine hK.out _ _ HS2 (fun HS => ?_)
            clear HS2 hK
            try simp only [Act.put, List.setIfInBounds_toArray, List.set_cons_zero, List.set_cons_succ]
            refine wpAnyH_ready (rs := [16]) (by kernel_rfl) (by simp) ?_
            refine AllReadyH.cons (o := { dst := none, op := Go.Op.store 26 (Go.Operand.tmp 13) (Go.Operand.tmp 73), type := 0, pos := "law.go:83", after := #[{ on := 14, ground := Go.Ground.data }, { on := 9, ground := Go.Ground.data }, { on := 13, ground := Go.Ground.chain }, { on := 0, ground := Go.Ground.phase }, { on := 1, ground := Go.Ground.phase }, { on := 2, ground := Go.Ground.phase }, { on := 3, ground := Go.Ground.phase }, { on := 4, ground := Go.Ground.phase }, { on := 5, ground := Go.Ground.phase }, { on := 6, ground := Go.Ground.phase }, { on := 7, ground := Go.Ground.phase }, { on := 8, ground := Go.Ground.phase }, { on := 9, ground := Go.Ground.phase }, { on := 10, ground := Go.Ground.textOnly Go.Departure.lateStores }, { on := 11, ground := Go.Ground.textOnly Go.Departure.lateStores }, { on := 12, ground := Go.Ground.textOnly Go.Departure.lateStores }, { on := 13, ground := Go.Ground.textOnly Go.Departure.lateStoresUnsure }, { on := 14, ground := Go.Ground.phase }, { on := 15, ground := Go.Ground.phase }], guard := none }) rfl (fun K hK => ?_) AllReadyH.nil
            refine st_store (p := 13) (q := 73) (b := b13) (u := zW) (v := qd) rfl rfl rfl rfl P13.out.1 rfl (fun wn hrow hgr => ?_)
            replace P14 := Lib.hid (And.intro (keep_other P14.out.1 hgr (by have := D.out; omega)) P14.out.2)
            have HS2 := below_grown1 HS hgr P13.out.2
            replace P13 := Lib.hid (And.intro hrow P13.out.2)
            clear HS hrow hgr
            refine hK.out _ _ HS2 (fun HS => ?_)
            clear HS2 hK
            try simp only [Act.put, List.setIfInBounds_toArray, List.set_cons_zero, List.set_cons_succ]
            refine wpAnyH_ready (rs := [17]) (by kernel_rfl) (by simp) ?_
            refine AllReadyH.cons (o := { dst := none, op := Go.Op.store 26 (Go.Operand.tmp 14) (Go.Operand.tmp 77), type := 0, pos := "law.go:83", after := #[{ on := 15, ground := Go.Ground.data }, { on := 13, ground := Go.Ground.data }, { on := 16, ground := Go.Ground.chain }, { on := 0, ground := Go.Ground.phase }, { on := 1, ground := Go.Ground.phase }, { on := 2, ground := Go.Ground.phase }, { on := 3, ground := Go.Ground.phase }, { on := 4, ground := Go.Ground.phase }, { on := 5, ground := Go.Ground.phase }, { on := 6, ground := Go.Ground.phase }, { on := 7, ground := Go.Ground.phase }, { on := 8, ground := Go.Ground.phase }, { on := 9, ground := Go.Ground.phase }, { on := 10, ground := Go.Ground.phase }, { on := 11, ground := Go.Ground.phase }, { on := 12, ground := Go.Ground.phase }, { on := 13, ground := Go.Ground.phase }, { on := 14, ground := Go.Ground.phase }, { on := 15, ground := Go.Ground.phase }, { on := 16, ground := Go.Ground.phase }], guard := none }) rfl (fun K hK => ?_) AllReadyH.nil
            refine st_store (p := 14) (q := 77) (b := b14) (u := zW) (v := qd) rfl rfl rfl rfl P14.out.1 rfl (fun wn hrow hgr => ?_)
            replace P13 := Lib.hid (And.intro (keep_other P13.out.1 hgr (by have := D.out; omega)) P13.out.2)
            have HS2 := below_grown1 HS hgr P14.out.2
            replace P14 := Lib.hid (And.intro hrow P14.out.2)
            clear HS hrow hgr
            refine hK.out _ _ HS2 (fun HS => ?_)
            clear HS2 hK
            try simp only [Act.put, List.setIfInBounds_toArray, List.set_cons_zero, List.set_cons_succ]
            refine wpAnyH_done (by kernel_rfl) ?_ _
            refine NoPanic.normal ?_
            go_wp2
            go_meet
            case rel => exact ⟨b13, b14, rfl, rfl, P13.out.1, P14.out.1, HS⟩
          refine AllReadyH.cons (o := { dst := some 13, op := Go.Op.alloc 26, type := 0, pos := "law.go:83", after := #[], guard := none }) rfl (fun K hK => ?_) ?_
          · skip
            refine st_alloc rfl rfl (fun b13 wn hge hrow hbel => ?_)
            replace N := Lib.hid (And.intro (hp_on' N.out.1 hbel) N.out.2)
            have P13 := Lib.hid (And.intro hrow (Nat.le_trans HS.size hge))
            clear hrow hge
            have HS2 := HS.trans (hbel.mono HS.size)
            clear HS hbel
            refine hK.out _ _ HS2 (fun HS => ?_)
            clear HS2 hK
            try simp only [Act.put, List.setIfInBounds_toArray, List.set_cons_zero, List.set_cons_succ]
            refine wpAnyH_ready (rs := [8, 15]) (by kernel_rfl) (by simp) ?_
            refine AllReadyH.cons (o := { dst := some 72, op := Go.Op.call { callee := Go.Callee.builtin Go.Builtin.append, args := #[Go.Operand.tmp 69, Go.Operand.tmp 71], argTypes := #[22, 22] }, type := 22, pos := "law.go:83", after := #[{ on := 5, ground := Go.Ground.data }, { on := 7, ground := Go.Ground.data }], guard := none }) rfl (fun K hK => ?_) ?_
            · skip
              refine step_append_grows rfl (.tmp 69) (.tmp 71) 22 rfl 46 i0 _ 4 32 Try.underlying22 HI.out.1 HI.out.2.1 HI.out.2.2.1 HI.out.2.2.2 rfl (by decide) A l.length l.length (tCells l) rfl (fun e => ⟨(HA.out e).1, (HA.out e).1⟩) (tCells_len l) (trow_cells (L6.out.ra.below HS)) ⟨bn, 0, none⟩ 1 1 [.int .u64 t0, .int .u64 t1, .int .i64 t2, .int .i64 t3] rfl rfl (World.news_of_block N.out.1) (by simp [Value.oneCell']) (by omega) (by unfold maxLen; omega) (by omega) ?_
              intro v7 wn hown hgr
              obtain ⟨A7, c7, rfl, hrr⟩ := trow_snoc (t := ⟨t0, t1, t2, t3⟩) hown
              have hbel := below_grown0 hgr
              clear N hown hgr
              replace P13 := Lib.hid (And.intro (hp_on' P13.out.1 hbel) P13.out.2)
              have RR := Lib.hid hrr
              clear hrr
              have HS2 := HS.trans (hbel.mono HS.size)
              clear HS hbel
              refine hK.out _ _ HS2 (fun HS => ?_)
              clear HS2 hK
              try simp only [Act.put, List.setIfInBounds_toArray, List.set_cons_zero, List.set_cons_succ]
              refine wpAnyH_ready (rs := [9, 15]) (by kernel_rfl) (by simp) ?_
              refine AllReadyH.cons (o := { dst := some 73, op := Go.Op.call { callee := Go.Callee.value (Go.Operand.func 7), args := #[Go.Operand.tmp 72], argTypes := #[22] }, type := 26, pos := "law.go:83", after := #[{ on := 8, ground := Go.Ground.data }, { on := 8, ground := Go.Ground.chain }], guard := none }) rfl (fun K hK => ?_) ?_
              · skip
                go_simp
                refine (cD.out _ A7 c7 RR.out).mono ?_; rintro e wn ⟨rfl, hbel⟩
                clear RR
                replace P13 := Lib.hid (And.intro (hp_on' P13.out.1 hbel) P13.out.2)
                have HS2 := HS.trans (hbel.mono HS.size)
                clear HS hbel
                refine hK.out _ _ HS2 (fun HS => ?_)
                clear HS2 hK
                try simp only [Act.put, List.setIfInBounds_toArray, List.set_cons_zero, List.set_cons_succ]
                refine wpAnyH_ready (rs := [13, 15]) (by kernel_rfl) (by simp) ?_
                refine AllReadyH.cons (o := { dst := some 77, op := Go.Op.call { callee := Go.Callee.value (Go.Operand.func 16), args := #[Go.Operand.tmp 74, Go.Operand.tmp 75, Go.Operand.tmp 76], argTypes := #[26, 2, 46] }, type := 26, pos := "law.go:83", after := #[{ on := 10, ground := Go.Ground.data }, { on := 11, ground := Go.Ground.data }, { on := 12, ground := Go.Ground.data }, { on := 9, ground := Go.Ground.chain }], guard := none }) rfl (fun K hK => ?_) ?_
                · skip
                  go_simp
                  refine (cT.out _).mono ?_; rintro e wn ⟨rfl, hbel⟩
                  replace P13 := Lib.hid (And.intro (hp_on' P13.out.1 hbel) P13.out.2)
                  have HS2 := HS.trans (hbel.mono HS.size)
                  clear HS hbel
                  refine hK.out _ _ HS2 (fun HS => ?_)
                  clear HS2 hK
                  try simp only [Act.put, List.setIfInBounds_toArray, List.set_cons_zero, List.set_cons_succ]
                  refine wpAnyH_ready (rs := [15]) (by kernel_rfl) (by simp) ?_
                  refine AllReadyH.cons (o := { dst := some 14, op := Go.Op.alloc 26, type := 0, pos := "law.go:83", after := #[], guard := none }) rfl (fun K hK => ?_) AllReadyH.nil
                  refine st_alloc rfl rfl (fun b14 wn hge hrow hbel => ?_)
                  have D : Hid (b13 ≠ b14) := Lib.hid (by have := (Array.getElem?_eq_some_iff.1 P13.out.1).1; omega)
                  replace P13 := Lib.hid (And.intro (hp_on' P13.out.1 hbel) P13.out.2)
                  have P14 := Lib.hid (And.intro hrow (Nat.le_trans HS.size hge))
                  clear hrow hge
                  have HS2 := HS.trans (hbel.mono HS.size)
                  clear HS hbel
                  refine hK.out _ _ HS2 (fun HS => ?_)
                  clear HS2 hK
                  try simp only [Act.put, List.setIfInBounds_toArray, List.set_cons_zero, List.set_cons_succ]
                  refine wpAnyH_ready (rs := [16]) (by kernel_rfl) (by simp) ?_
                  refine AllReadyH.cons (o := { dst := none, op := Go.Op.store 26 (Go.Operand.tmp 13) (Go.Operand.tmp 73), type := 0, pos := "law.go:83", after := #[{ on := 14, ground := Go.Ground.data }, { on := 9, ground := Go.Ground.data }, { on := 13, ground := Go.Ground.chain }, { on := 0, ground := Go.Ground.phase }, { on := 1, ground := Go.Ground.phase }, { on := 2, ground := Go.Ground.phase }, { on := 3, ground := Go.Ground.phase }, { on := 4, ground := Go.Ground.phase }, { on := 5, ground := Go.Ground.phase }, { on := 6, ground := Go.Ground.phase }, { on := 7, ground := Go.Ground.phase }, { on := 8, ground := Go.Ground.phase }, { on := 9, ground := Go.Ground.phase }, { on := 10, ground := Go.Ground.textOnly Go.Departure.lateStores }, { on := 11, ground := Go.Ground.textOnly Go.Departure.lateStores }, { on := 12, ground := Go.Ground.textOnly Go.Departure.lateStores }, { on := 13, ground := Go.Ground.textOnly Go.Departure.lateStoresUnsure }, { on := 14, ground := Go.Ground.phase }, { on := 15, ground := Go.Ground.phase }], guard := none }) rfl (fun K hK => ?_) AllReadyH.nil
                  refine st_store (p := 13) (q := 73) (b := b13) (u := zW) (v := qd) rfl rfl rfl rfl P13.out.1 rfl (fun wn hrow hgr => ?_)
                  replace P14 := Lib.hid (And.intro (keep_other P14.out.1 hgr (by have := D.out; omega)) P14.out.2)
                  have HS2 := below_grown1 HS hgr P13.out.2
                  replace P13 := Lib.hid (And.intro hrow P13.out.2)
                  clear HS hrow hgr
                  refine hK.out _ _ HS2 (fun HS => ?_)
                  clear HS2 hK
                  try simp only [Act.put, List.setIfInBounds_toArray, List.set_cons_zero, List.set_cons_succ]
                  refine wpAnyH_ready (rs := [17]) (by kernel_rfl) (by simp) ?_
                  refine AllReadyH.cons (o := { dst := none, op := Go.Op.store 26 (Go.Operand.tmp 14) (Go.Operand.tmp 77), type := 0, pos := "law.go:83", after := #[{ on := 15, ground := Go.Ground.data }, { on := 13, ground := Go.Ground.data }, { on := 16, ground := Go.Ground.chain }, { on := 0, ground := Go.Ground.phase }, { on := 1, ground := Go.Ground.phase }, { on := 2, ground := Go.Ground.phase }, { on := 3, ground := Go.Ground.phase }, { on := 4, ground := Go.Ground.phase }, { on := 5, ground := Go.Ground.phase }, { on := 6, ground := Go.Ground.phase }, { on := 7, ground := Go.Ground.phase }, { on := 8, ground := Go.Ground.phase }, { on := 9, ground := Go.Ground.phase }, { on := 10, ground := Go.Ground.phase }, { on := 11, ground := Go.Ground.phase }, { on := 12, ground := Go.Ground.phase }, { on := 13, ground := Go.Ground.phase }, { on := 14, ground := Go.Ground.phase }, { on := 15, ground := Go.Ground.phase }, { on := 16, ground := Go.Ground.phase }], guard := none }) rfl (fun K hK => ?_) AllReadyH.nil
                  refine st_store (p := 14) (q := 77) (b := b14) (u := zW) (v := qd) rfl rfl rfl rfl P14.out.1 rfl (fun wn hrow hgr => ?_)
                  replace P13 := Lib.hid (And.intro (keep_other P13.out.1 hgr (by have := D.out; omega)) P13.out.2)
                  have HS2 := below_grown1 HS hgr P14.out.2
                  replace P14 := Lib.hid (And.intro hrow P14.out.2)
                  clear HS hrow hgr
                  refine hK.out _ _ HS2 (fun HS => ?_)
                  clear HS2 hK
                  try simp only [Act.put, List.setIfInBounds_toArray, List.set_cons_zero, List.set_cons_succ]
                  refine wpAnyH_done (by kernel_rfl) ?_ _
                  refine NoPanic.normal ?_
                  go_wp2
                  go_meet
                  case rel => exact ⟨b13, b14, rfl, rfl, P13.out.1, P14.out.1, HS⟩
                refine AllReadyH.cons (o := { dst := some 14, op := Go.Op.alloc 26, type := 0, pos := "law.go:83", after := #[], guard := none }) rfl (fun K hK => ?_) AllReadyH.nil
                refine st_alloc rfl rfl (fun b14 wn hge hrow hbel => ?_)
                have D : Hid (b13 ≠ b14) := Lib.hid (by have := (Array.getElem?_eq_some_iff.1 P13.out.1).1; omega)
                replace P13 := Lib.hid (And.intro (hp_on' P13.out.1 hbel) P13.out.2)
                have P14 := Lib.hid (And.intro hrow (Nat.le_trans HS.size hge))
                clear hrow hge
                have HS2 := HS.trans (hbel.mono HS.size)
                clear HS hbel
                refine hK.out _ _ HS2 (fun HS => ?_)
                clear HS2 hK
                try simp only [Act.put, List.setIfInBounds_toArray, List.set_cons_zero, List.set_cons_succ]
                refine wpAnyH_ready (rs := [13]) (by kernel_rfl) (by simp) ?_
                refine AllReadyH.cons (o := { dst := some 77, op := Go.Op.call { callee := Go.Callee.value (Go.Operand.func 16), args := #[Go.Operand.tmp 74, Go.Operand.tmp 75, Go.Operand.tmp 76], argTypes := #[26, 2, 46] }, type := 26, pos := "law.go:83", after := #[{ on := 10, ground := Go.Ground.data }, { on := 11, ground := Go.Ground.data }, { on := 12, ground := Go.Ground.data }, { on := 9, ground := Go.Ground.chain }], guard := none }) rfl (fun K hK => ?_) AllReadyH.nil
                go_simp
                refine (cT.out _).mono ?_; rintro e wn ⟨rfl, hbel⟩
                replace P13 := Lib.hid (And.intro (hp_on' P13.out.1 hbel) P13.out.2)
                replace P14 := Lib.hid (And.intro (hp_on' P14.out.1 hbel) P14.out.2)
                have HS2 := HS.trans (hbel.mono HS.size)
                clear HS hbel
                refine hK.out _ _ HS2 (fun HS => ?_)
                clear HS2 hK
                try simp only [Act.put, List.setIfInBounds_toArray, List.set_cons_zero, List.set_cons_succ]
                refine wpAnyH_ready (rs := [16]) (by kernel_rfl) (by simp) ?_
                refine AllReadyH.cons (o := { dst := none, op := Go.Op.store 26 (Go.Operand.tmp 13) (Go.Operand.tmp 73), type := 0, pos := "law.go:83", after := #[{ on := 14, ground := Go.Ground.data }, { on := 9, ground := Go.Ground.data }, { on := 13, ground := Go.Ground.chain }, { on := 0, ground := Go.Ground.phase }, { on := 1, ground := Go.Ground.phase }, { on := 2, ground := Go.Ground.phase }, { on := 3, ground := Go.Ground.phase }, { on := 4, ground := Go.Ground.phase }, { on := 5, ground := Go.Ground.phase }, { on := 6, ground := Go.Ground.phase }, { on := 7, ground := Go.Ground.phase }, { on := 8, ground := Go.Ground.phase }, { on := 9, ground := Go.Ground.phase }, { on := 10, ground := Go.Ground.textOnly Go.Departure.lateStores }, { on := 11, ground := Go.Ground.textOnly Go.Departure.lateStores }, { on := 12, ground := Go.Ground.textOnly Go.Departure.lateStores }, { on := 13, ground := Go.Ground.textOnly Go.Departure.lateStoresUnsure }, { on := 14, ground := Go.Ground.phase }, { on := 15, ground := Go.Ground.phase }], guard := none }) rfl (fun K hK => ?_) AllReadyH.nil
                refine st_store (p := 13) (q := 73) (b := b13) (u := zW) (v := qd) rfl rfl rfl rfl P13.out.1 rfl (fun wn hrow hgr => ?_)
                replace P14 := Lib.hid (And.intro (keep_other P14.out.1 hgr (by have := D.out; omega)) P14.out.2)
                have HS2 := below_grown1 HS hgr P13.out.2
                replace P13 := Lib.hid (And.intro hrow P13.out.2)
                clear HS hrow hgr
                refine hK.out _ _ HS2 (fun HS => ?_)
                clear HS2 hK
                try simp only [Act.put, List.setIfInBounds_toArray, List.set_cons_zero, List.set_cons_succ]
                refine wpAnyH_ready (rs := [17]) (by kernel_rfl) (by simp) ?_
                refine AllReadyH.cons (o := { dst := none, op := Go.Op.store 26 (Go.Operand.tmp 14) (Go.Operand.tmp 77), type := 0, pos := "law.go:83", after := #[{ on := 15, ground := Go.Ground.data }, { on := 13, ground := Go.Ground.data }, { on := 16, ground := Go.Ground.chain }, { on := 0, ground := Go.Ground.phase }, { on := 1, ground := Go.Ground.phase }, { on := 2, ground := Go.Ground.phase }, { on := 3, ground := Go.Ground.phase }, { on := 4, ground := Go.Ground.phase }, { on := 5, ground := Go.Ground.phase }, { on := 6, ground := Go.Ground.phase }, { on := 7, ground := Go.Ground.phase }, { on := 8, ground := Go.Ground.phase }, { on := 9, ground := Go.Ground.phase }, { on := 10, ground := Go.Ground.phase }, { on := 11, ground := Go.Ground.phase }, { on := 12, ground := Go.Ground.phase }, { on := 13, ground := Go.Ground.phase }, { on := 14, ground := Go.Ground.phase }, { on := 15, ground := Go.Ground.phase }, { on := 16, ground := Go.Ground.phase }], guard := none }) rfl (fun K hK => ?_) AllReadyH.nil
                refine st_store (p := 14) (q := 77) (b := b14) (u := zW) (v := qd) rfl rfl rfl rfl P14.out.1 rfl (fun wn hrow hgr => ?_)
                replace P13 := Lib.hid (And.intro (keep_other P13.out.1 hgr (by have := D.out; omega)) P13.out.2)
                have HS2 := below_grown1 HS hgr P14.out.2
                replace P14 := Lib.hid (And.intro hrow P14.out.2)
                clear HS hrow hgr
                refine hK.out _ _ HS2 (fun HS => ?_)
                clear HS2 hK
                try simp only [Act.put, List.setIfInBounds_toArray, List.set_cons_zero, List.set_cons_succ]
                refine wpAnyH_done (by kernel_rfl) ?_ _
                refine NoPanic.normal ?_
                go_wp2
                go_meet
                case rel => exact ⟨b13, b14, rfl, rfl, P13.out.1, P14.out.1, HS⟩
              refine AllReadyH.cons (o := { dst := some 14, op := Go.Op.alloc 26, type := 0, pos := "law.go:83", after := #[], guard := none }) rfl (fun K hK => ?_) AllReadyH.nil
              refine st_alloc rfl rfl (fun b14 wn hge hrow hbel => ?_)
              have D : Hid (b13 ≠ b14) := Lib.hid (by have := (Array.getElem?_eq_some_iff.1 P13.out.1).1; omega)
              replace RR := Lib.hid (RR.out.below hbel)
              replace P13 := Lib.hid (And.intro (hp_on' P13.out.1 hbel) P13.out.2)
              have P14 := Lib.hid (And.intro hrow (Nat.le_trans HS.size hge))
              clear hrow hge
              have HS2 := HS.trans (hbel.mono HS.size)
              clear HS hbel
              refine hK.out _ _ HS2 (fun HS => ?_)
              clear HS2 hK
              try simp only [Act.put, List.setIfInBounds_toArray, List.set_cons_zero, List.set_cons_succ]
              refine wpAnyH_ready (rs := [9]) (by kernel_rfl) (by simp) ?_
              refine AllReadyH.cons (o := { dst := some 73, op := Go.Op.call { callee := Go.Callee.value (Go.Operand.func 7), args := #[Go.Operand.tmp 72], argTypes := #[22] }, type := 26, pos := "law.go:83", after := #[{ on := 8, ground := Go.Ground.data }, { on := 8, ground := Go.Ground.chain }], guard := none }) rfl (fun K hK => ?_) AllReadyH.nil
              go_simp
              refine (cD.out _ A7 c7 RR.out).mono ?_; rintro e wn ⟨rfl, hbel⟩
              clear RR
              replace P13 := Lib.hid (And.intro (hp_on' P13.out.1 hbel) P13.out.2)
              replace P14 := Lib.hid (And.intro (hp_on' P14.out.1 hbel) P14.out.2)
              have HS2 := HS.trans (hbel.mono HS.size)
              clear HS hbel
              refine hK.out _ _ HS2 (fun HS => ?_)
              clear HS2 hK
              try simp only [Act.put, List.setIfInBounds_toArray, List.set_cons_zero, List.set_cons_succ]
              refine wpAnyH_ready (rs := [13]) (by kernel_rfl) (by simp) ?_
              refine AllReadyH.cons (o := { dst := some 77, op := Go.Op.call { callee := Go.Callee.value (Go.Operand.func 16), args := #[Go.Operand.tmp 74, Go.Operand.tmp 75, Go.Operand.tmp 76], argTypes := #[26, 2, 46] }, type := 26, pos := "law.go:83", after := #[{ on := 10, ground := Go.Ground.data }, { on := 11, ground := Go.Ground.data }, { on := 12, ground := Go.Ground.data }, { on := 9, ground := Go.Ground.chain }], guard := none }) rfl (fun K hK => ?_) AllReadyH.nil
              go_simp
              refine (cT.out _).mono ?_; rintro e wn ⟨rfl, hbel⟩
              replace P13 := Lib.hid (And.intro (hp_on' P13.out.1 hbel) P13.out.2)
              replace P14 := Lib.hid (And.intro (hp_on' P14.out.1 hbel) P14.out.2)
              have HS2 := HS.trans (hbel.mono HS.size)
              clear HS hbel
              refine hK.out _ _ HS2 (fun HS => ?_)
              clear HS2 hK
              try simp only [Act.put, List.setIfInBounds_toArray, List.set_cons_zero, List.set_cons_succ]
              refine wpAnyH_ready (rs := [16]) (by kernel_rfl) (by simp) ?_
              refine AllReadyH.cons (o := { dst := none, op := Go.Op.store 26 (Go.Operand.tmp 13) (Go.Operand.tmp 73), type := 0, pos := "law.go:83", after := #[{ on := 14, ground := Go.Ground.data }, { on := 9, ground := Go.Ground.data }, { on := 13, ground := Go.Ground.chain }, { on := 0, ground := Go.Ground.phase }, { on := 1, ground := Go.Ground.phase }, { on := 2, ground := Go.Ground.phase }, { on := 3, ground := Go.Ground.phase }, { on := 4, ground := Go.Ground.phase }, { on := 5, ground := Go.Ground.phase }, { on := 6, ground := Go.Ground.phase }, { on := 7, ground := Go.Ground.phase }, { on := 8, ground := Go.Ground.phase }, { on := 9, ground := Go.Ground.phase }, { on := 10, ground := Go.Ground.textOnly Go.Departure.lateStores }, { on := 11, ground := Go.Ground.textOnly Go.Departure.lateStores }, { on := 12, ground := Go.Ground.textOnly Go.Departure.lateStores }, { on := 13, ground := Go.Ground.textOnly Go.Departure.lateStoresUnsure }, { on := 14, ground := Go.Ground.phase }, { on := 15, ground := Go.Ground.phase }], guard := none }) rfl (fun K hK => ?_) AllReadyH.nil
              refine st_store (p := 13) (q := 73) (b := b13) (u := zW) (v := qd) rfl rfl rfl rfl P13.out.1 rfl (fun wn hrow hgr => ?_)
              replace P14 := Lib.hid (And.intro (keep_other P14.out.1 hgr (by have := D.out; omega)) P14.out.2)
              have HS2 := below_grown1 HS hgr P13.out.2
              replace P13 := Lib.hid (And.intro hrow P13.out.2)
              clear HS hrow hgr
              refine hK.out _ _ HS2 (fun HS => ?_)
              clear HS2 hK
              try simp only [Act.put, List.setIfInBounds_toArray, List.set_cons_zero, List.set_cons_succ]
              refine wpAnyH_ready (rs := [17]) (by kernel_rfl) (by simp) ?_
              refine AllReadyH.cons (o := { dst := none, op := Go.Op.store 26 (Go.Operand.tmp 14) (Go.Operand.tmp 77), type := 0, pos := "law.go:83", after := #[{ on := 15, ground := Go.Ground.data }, { on := 13, ground := Go.Ground.data }, { on := 16, ground := Go.Ground.chain }, { on := 0, ground := Go.Ground.phase }, { on := 1, ground := Go.Ground.phase }, { on := 2, ground := Go.Ground.phase }, { on := 3, ground := Go.Ground.phase }, { on := 4, ground := Go.Ground.phase }, { on := 5, ground := Go.Ground.phase }, { on := 6, ground := Go.Ground.phase }, { on := 7, ground := Go.Ground.phase }, { on := 8, ground := Go.Ground.phase }, { on := 9, ground := Go.Ground.phase }, { on := 10, ground := Go.Ground.phase }, { on := 11, ground := Go.Ground.phase }, { on := 12, ground := Go.Ground.phase }, { on := 13, ground := Go.Ground.phase }, { on := 14, ground := Go.Ground.phase }, { on := 15, ground := Go.Ground.phase }, { on := 16, ground := Go.Ground.phase }], guard := none }) rfl (fun K hK => ?_) AllReadyH.nil
              refine st_store (p := 14) (q := 77) (b := b14) (u := zW) (v := qd) rfl rfl rfl rfl P14.out.1 rfl (fun wn hrow hgr => ?_)
              replace P13 := Lib.hid (And.intro (keep_other P13.out.1 hgr (by have := D.out; omega)) P13.out.2)
              have HS2 := below_grown1 HS hgr P14.out.2
              replace P14 := Lib.hid (And.intro hrow P14.out.2)
              clear HS hrow hgr
              refine hK.out _ _ HS2 (fun HS => ?_)
              clear HS2 hK
              try simp only [Act.put, List.setIfInBounds_toArray, List.set_cons_zero, List.set_cons_succ]
              refine wpAnyH_done (by kernel_rfl) ?_ _
              refine NoPanic.normal ?_
              go_wp2
              go_meet
              case rel => exact ⟨b13, b14, rfl, rfl, P13.out.1, P14.out.1, HS⟩
            refine AllReadyH.cons (o := { dst := some 14, op := Go.Op.alloc 26, type := 0, pos := "law.go:83", after := #[], guard := none }) rfl (fun K hK => ?_) AllReadyH.nil
            refine st_alloc rfl rfl (fun b14 wn hge hrow hbel => ?_)
            have D : Hid (b13 ≠ b14) := Lib.hid (by have := (Array.getElem?_eq_some_iff.1 P13.out.1).1; omega)
            replace N := Lib.hid (And.intro (hp_on' N.out.1 hbel) N.out.2)
            replace P13 := Lib.hid (And.intro (hp_on' P13.out.1 hbel) P13.out.2)
            have P14 := Lib.hid (And.intro hrow (Nat.le_trans HS.size hge))
            clear hrow hge
            have HS2 := HS.trans (hbel.mono HS.size)
            clear HS hbel
            refine hK.out _ _ HS2 (fun HS => ?_)
            clear HS2 hK
            try simp only [Act.put, List.setIfInBounds_toArray, List.set_cons_zero, List.set_cons_succ]
            refine wpAnyH_ready (rs := [8]) (by kernel_rfl) (by simp) ?_
            refine AllReadyH.cons (o := { dst := some 72, op := Go.Op.call { callee := Go.Callee.builtin Go.Builtin.append, args := #[Go.Operand.tmp 69, Go.Operand.tmp 71], argTypes := #[22, 22] }, type := 22, pos := "law.go:83", after := #[{ on := 5, ground := Go.Ground.data }, { on := 7, ground := Go.Ground.data }], guard := none }) rfl (fun K hK => ?_) AllReadyH.nil
            refine step_append_grows rfl (.tmp 69) (.tmp 71) 22 rfl 46 i0 _ 4 32 Try.underlying22 HI.out.1 HI.out.2.1 HI.out.2.2.1 HI.out.2.2.2 rfl (by decide) A l.length l.length (tCells l) rfl (fun e => ⟨(HA.out e).1, (HA.out e).1⟩) (tCells_len l) (trow_cells (L6.out.ra.below HS)) ⟨bn, 0, none⟩ 1 1 [.int .u64 t0, .int .u64 t1, .int .i64 t2, .int .i64 t3] rfl rfl (World.news_of_block N.out.1) (by simp [Value.oneCell']) (by omega) (by unfold maxLen; omega) (by omega) ?_
            intro v7 wn hown hgr
            obtain ⟨A7, c7, rfl, hrr⟩ := trow_snoc (t := ⟨t0, t1, t2, t3⟩) hown
            have hbel := below_grown0 hgr
            clear N hown hgr
            replace P13 := Lib.hid (And.intro (hp_on' P13.out.1 hbel) P13.out.2)
            replace P14 := Lib.hid (And.intro (hp_on' P14.out.1 hbel) P14.out.2)
            have RR := Lib.hid hrr
            clear hrr
            have HS2 := HS.trans (hbel.mono HS.size)
            clear HS hbel
            refine hK.out _ _ HS2 (fun HS => ?_)
            clear HS2 hK
            try simp only [Act.put, List.setIfInBounds_toArray, List.set_cons_zero, List.set_cons_succ]
            refine wpAnyH_ready (rs := [9]) (by kernel_rfl) (by simp) ?_
            refine AllReadyH.cons (o := { dst := some 73, op := Go.Op.call { callee := Go.Callee.value (Go.Operand.func 7), args := #[Go.Operand.tmp 72], argTypes := #[22] }, type := 26, pos := "law.go:83", after := #[{ on := 8, ground := Go.Ground.data }, { on := 8, ground := Go.Ground.chain }], guard := none }) rfl (fun K hK => ?_) AllReadyH.nil
            go_simp
            refine (cD.out _ A7 c7 RR.out).mono ?_; rintro e wn ⟨rfl, hbel⟩
            clear RR
            replace P13 := Lib.hid (And.intro (hp_on' P13.out.1 hbel) P13.out.2)
            replace P14 := Lib.hid (And.intro (hp_on' P14.out.1 hbel) P14.out.2)
            have HS2 := HS.trans (hbel.mono HS.size)
            clear HS hbel
            refine hK.out _ _ HS2 (fun HS => ?_)
            clear HS2 hK
            try simp only [Act.put, List.setIfInBounds_toArray, List.set_cons_zero, List.set_cons_succ]
            refine wpAnyH_ready (rs := [13]) (by kernel_rfl) (by simp) ?_
            refine AllReadyH.cons (o := { dst := some 77, op := Go.Op.call { callee := Go.Callee.value (Go.Operand.func 16), args := #[Go.Operand.tmp 74, Go.Operand.tmp 75, Go.Operand.tmp 76], argTypes := #[26, 2, 46] }, type := 26, pos := "law.go:83", after := #[{ on := 10, ground := Go.Ground.data }, { on := 11, ground := Go.Ground.data }, { on := 12, ground := Go.Ground.data }, { on := 9, ground := Go.Ground.chain }], guard := none }) rfl (fun K hK => ?_) AllReadyH.nil
            go_simp
            refine (cT.out _).mono ?_; rintro e wn ⟨rfl, hbel⟩
            replace P13 := Lib.hid (And.intro (hp_on' P13.out.1 hbel) P13.out.2)
            replace P14 := Lib.hid (And.intro (hp_on' P14.out.1 hbel) P14.out.2)
            have HS2 := HS.trans (hbel.mono HS.size)
            clear HS hbel
            refine hK.out _ _ HS2 (fun HS => ?_)
            clear HS2 hK
            try simp only [Act.put, List.setIfInBounds_toArray, List.set_cons_zero, List.set_cons_succ]
            refine wpAnyH_ready (rs := [16]) (by kernel_rfl) (by simp) ?_
            refine AllReadyH.cons (o := { dst := none, op := Go.Op.store 26 (Go.Operand.tmp 13) (Go.Operand.tmp 73), type := 0, pos := "law.go:83", after := #[{ on := 14, ground := Go.Ground.data }, { on := 9, ground := Go.Ground.data }, { on := 13, ground := Go.Ground.chain }, { on := 0, ground := Go.Ground.phase }, { on := 1, ground := Go.Ground.phase }, { on := 2, ground := Go.Ground.phase }, { on := 3, ground := Go.Ground.phase }, { on := 4, ground := Go.Ground.phase }, { on := 5, ground := Go.Ground.phase }, { on := 6, ground := Go.Ground.phase }, { on := 7, ground := Go.Ground.phase }, { on := 8, ground := Go.Ground.phase }, { on := 9, ground := Go.Ground.phase }, { on := 10, ground := Go.Ground.textOnly Go.Departure.lateStores }, { on := 11, ground := Go.Ground.textOnly Go.Departure.lateStores }, { on := 12, ground := Go.Ground.textOnly Go.Departure.lateStores }, { on := 13, ground := Go.Ground.textOnly Go.Departure.lateStoresUnsure }, { on := 14, ground := Go.Ground.phase }, { on := 15, ground := Go.Ground.phase }], guard := none }) rfl (fun K hK => ?_) AllReadyH.nil
            refine st_store (p := 13) (q := 73) (b := b13) (u := zW) (v := qd) rfl rfl rfl rfl P13.out.1 rfl (fun wn hrow hgr => ?_)
            replace P14 := Lib.hid (And.intro (keep_other P14.out.1 hgr (by have := D.out; omega)) P14.out.2)
            have HS2 := below_grown1 HS hgr P13.out.2
            replace P13 := Lib.hid (And.intro hrow P13.out.2)
            clear HS hrow hgr
            refine hK.out _ _ HS2 (fun HS => ?_)
            clear HS2 hK
            try simp only [Act.put, List.setIfInBounds_toArray, List.set_cons_zero, List.set_cons_succ]
            refine wpAnyH_ready (rs := [17]) (by kernel_rfl) (by simp) ?_
            refine AllReadyH.cons (o := { dst := none, op := Go.Op.store 26 (Go.Operand.tmp 14) (Go.Operand.tmp 77), type := 0, pos := "law.go:83", after := #[{ on := 15, ground := Go.Ground.data }, { on := 13, ground := Go.Ground.data }, { on := 16, ground := Go.Ground.chain }, { on := 0, ground := Go.Ground.phase }, { on := 1, ground := Go.Ground.phase }, { on := 2, ground := Go.Ground.phase }, { on := 3, ground := Go.Ground.phase }, { on := 4, ground := Go.Ground.phase }, { on := 5, ground := Go.Ground.phase }, { on := 6, ground := Go.Ground.phase }, { on := 7, ground := Go.Ground.phase }, { on := 8, ground := Go.Ground.phase }, { on := 9, ground := Go.Ground.phase }, { on := 10, ground := Go.Ground.phase }, { on := 11, ground := Go.Ground.phase }, { on := 12, ground := Go.Ground.phase }, { on := 13, ground := Go.Ground.phase }, { on := 14, ground := Go.Ground.phase }, { on := 15, ground := Go.Ground.phase }, { on := 16, ground := Go.Ground.phase }], guard := none }) rfl (fun K hK => ?_) AllReadyH.nil
            refine st_store (p := 14) (q := 77) (b := b14) (u := zW) (v := qd) rfl rfl rfl rfl P14.out.1 rfl (fun wn hrow hgr => ?_)
            replace P13 := Lib.hid (And.intro (keep_other P13.out.1 hgr (by have := D.out; omega)) P13.out.2)
            have HS2 := below_grown1 HS hgr P14.out.2
            replace P14 := Lib.hid (And.intro hrow P14.out.2)
            clear HS hrow hgr
            refine hK.out _ _ HS2 (fun HS => ?_)
            clear HS2 hK
            try simp only [Act.put, List.setIfInBounds_toArray, List.set_cons_zero, List.set_cons_succ]
            refine wpAnyH_done (by kernel_rfl) ?_ _
            refine NoPanic.normal ?_
            go_wp2
            go_meet
            case rel => exact ⟨b13, b14, rfl, rfl, P13.out.1, P14.out.1, HS⟩
          refine AllReadyH.cons (o := { dst := some 14, op := Go.Op.alloc 26, type := 0, pos := "law.go:83", after := #[], guard := none }) rfl (fun K hK => ?_) AllReadyH.nil
          refine st_alloc rfl rfl (fun b14 wn hge hrow hbel => ?_)
          replace N := Lib.hid (And.intro (hp_on' N.out.1 hbel) N.out.2)
          have P14 := Lib.hid (And.intro hrow (Nat.le_trans HS.size hge))
          clear hrow hge
          have HS2 := HS.trans (hbel.mono HS.size)
          clear HS hbel
          refine hK.out _ _ HS2 (fun HS => ?_)
          clear HS2 hK
          try simp only [Act.put, List.setIfInBounds_toArray, List.set_cons_zero, List.set_cons_succ]
          refine wpAnyH_ready (rs := [8, 14]) (by kernel_rfl) (by simp) ?_
          refine AllReadyH.cons (o := { dst := some 72, op := Go.Op.call { callee := Go.Callee.builtin Go.Builtin.append, args := #[Go.Operand.tmp 69, Go.Operand.tmp 71], argTypes := #[22, 22] }, type := 22, pos := "law.go:83", after := #[{ on := 5, ground := Go.Ground.data }, { on := 7, ground := Go.Ground.data }], guard := none }) rfl (fun K hK => ?_) ?_
          · skip
            refine step_append_grows rfl (.tmp 69) (.tmp 71) 22 rfl 46 i0 _ 4 32 Try.underlying22 HI.out.1 HI.out.2.1 HI.out.2.2.1 HI.out.2.2.2 rfl (by decide) A l.length l.length (tCells l) rfl (fun e => ⟨(HA.out e).1, (HA.out e).1⟩) (tCells_len l) (trow_cells (L6.out.ra.below HS)) ⟨bn, 0, none⟩ 1 1 [.int .u64 t0, .int .u64 t1, .int .i64 t2, .int .i64 t3] rfl rfl (World.news_of_block N.out.1) (by simp [Value.oneCell']) (by omega) (by unfold maxLen; omega) (by omega) ?_
            intro v7 wn hown hgr
            obtain ⟨A7, c7, rfl, hrr⟩ := trow_snoc (t := ⟨t0, t1, t2, t3⟩) hown
            have hbel := below_grown0 hgr
            clear N hown hgr
            replace P14 := Lib.hid (And.intro (hp_on' P14.out.1 hbel) P14.out.2)
            have RR := Lib.hid hrr
            clear hrr
            have HS2 := HS.trans (hbel.mono HS.size)
            clear HS hbel
            refine hK.out _ _ HS2 (fun HS => ?_)
            clear HS2 hK
            try simp only [Act.put, List.setIfInBounds_toArray, List.set_cons_zero, List.set_cons_succ]
            refine wpAnyH_ready (rs := [9, 14]) (by kernel_rfl) (by simp) ?_
            refine AllReadyH.cons (o := { dst := some 73, op := Go.Op.call { callee := Go.Callee.value (Go.Operand.func 7), args := #[Go.Operand.tmp 72], argTypes := #[22] }, type := 26, pos := "law.go:83", after := #[{ on := 8, ground := Go.Ground.data }, { on := 8, ground := Go.Ground.chain }], guard := none }) rfl (fun K hK => ?_) ?_
            · skip
              go_simp
              refine (cD.out _ A7 c7 RR.out).mono ?_; rintro e wn ⟨rfl, hbel⟩
              clear RR
              replace P14 := Lib.hid (And.intro (hp_on' P14.out.1 hbel) P14.out.2)
              have HS2 := HS.trans (hbel.mono HS.size)
              clear HS hbel
              refine hK.out _ _ HS2 (fun HS => ?_)
              clear HS2 hK
              try simp only [Act.put, List.setIfInBounds_toArray, List.set_cons_zero, List.set_cons_succ]
              refine wpAnyH_ready (rs := [13, 14]) (by kernel_rfl) (by simp) ?_
              refine AllReadyH.cons (o := { dst := some 77, op := Go.Op.call { callee := Go.Callee.value (Go.Operand.func 16), args := #[Go.Operand.tmp 74, Go.Operand.tmp 75, Go.Operand.tmp 76], argTypes := #[26, 2, 46] }, type := 26, pos := "law.go:83", after := #[{ on := 10, ground := Go.Ground.data }, { on := 11, ground := Go.Ground.data }, { on := 12, ground := Go.Ground.data }, { on := 9, ground := Go.Ground.chain }], guard := none }) rfl (fun K hK => ?_) ?_
              · skip
                go_simp
                refine (cT.out _).mono ?_; rintro e wn ⟨rfl, hbel⟩
                replace P14 := Lib.hid (And.intro (hp_on' P14.out.1 hbel) P14.out.2)
                have HS2 := HS.trans (hbel.mono HS.size)
                clear HS hbel
                refine hK.out _ _ HS2 (fun HS => ?_)
                clear HS2 hK
                try simp only [Act.put, List.setIfInBounds_toArray, List.set_cons_zero, List.set_cons_succ]
                refine wpAnyH_ready (rs := [14]) (by kernel_rfl) (by simp) ?_
                refine AllReadyH.cons (o := { dst := some 13, op := Go.Op.alloc 26, type := 0, pos := "law.go:83", after := #[], guard := none }) rfl (fun K hK => ?_) AllReadyH.nil
                refine st_alloc rfl rfl (fun b13 wn hge hrow hbel => ?_)
                have D : Hid (b13 ≠ b14) := Lib.hid (by have := (Array.getElem?_eq_some_iff.1 P14.out.1).1; omega)
                replace P14 := Lib.hid (And.intro (hp_on' P14.out.1 hbel) P14.out.2)
                have P13 := Lib.hid (And.intro hrow (Nat.le_trans HS.size hge))
                clear hrow hge
                have HS2 := HS.trans (hbel.mono HS.size)
                clear HS hbel
                refine hK.out _ _ HS2 (fun HS => ?_)
                clear HS2 hK
                try simp only [Act.put, List.setIfInBounds_toArray, List.set_cons_zero, List.set_cons_succ]
                refine wpAnyH_ready (rs := [16]) (by kernel_rfl) (by simp) ?_
                refine AllReadyH.cons (o := { dst := none, op := Go.Op.store 26 (Go.Operand.tmp 13) (Go.Operand.tmp 73), type := 0, pos := "law.go:83", after := #[{ on := 14, ground := Go.Ground.data }, { on := 9, ground := Go.Ground.data }, { on := 13, ground := Go.Ground.chain }, { on := 0, ground := Go.Ground.phase }, { on := 1, ground := Go.Ground.phase }, { on := 2, ground := Go.Ground.phase }, { on := 3, ground := Go.Ground.phase }, { on := 4, ground := Go.Ground.phase }, { on := 5, ground := Go.Ground.phase }, { on := 6, ground := Go.Ground.phase }, { on := 7, ground := Go.Ground.phase }, { on := 8, ground := Go.Ground.phase }, { on := 9, ground := Go.Ground.phase }, { on := 10, ground := Go.Ground.textOnly Go.Departure.lateStores }, { on := 11, ground := Go.Ground.textOnly Go.Departure.lateStores }, { on := 12, ground := Go.Ground.textOnly Go.Departure.lateStores }, { on := 13, ground := Go.Ground.textOnly Go.Departure.lateStoresUnsure }, { on := 14, ground := Go.Ground.phase }, { on := 15, ground := Go.Ground.phase }], guard := none }) rfl (fun K hK => ?_) AllReadyH.nil
                refine st_store (p := 13) (q := 73) (b := b13) (u := zW) (v := qd) rfl rfl rfl rfl P13.out.1 rfl (fun wn hrow hgr => ?_)
                replace P14 := Lib.hid (And.intro (keep_other P14.out.1 hgr (by have := D.out; omega)) P14.out.2)
                have HS2 := below_grown1 HS hgr P13.out.2
                replace P13 := Lib.hid (And.intro hrow P13.out.2)
                clear HS hrow hgr
                refine hK.out _ _ HS2 (fun HS => ?_)
                clear HS2 hK
                try simp only [Act.put, List.setIfInBounds_toArray, List.set_cons_zero, List.set_cons_succ]
                refine wpAnyH_ready (rs := [17]) (by kernel_rfl) (by simp) ?_
                refine AllReadyH.cons (o := { dst := none, op := Go.Op.store 26 (Go.Operand.tmp 14) (Go.Operand.tmp 77), type := 0, pos := "law.go:83", after := #[{ on := 15, ground := Go.Ground.data }, { on := 13, ground := Go.Ground.data }, { on := 16, ground := Go.Ground.chain }, { on := 0, ground := Go.Ground.phase }, { on := 1, ground := Go.Ground.phase }, { on := 2, ground := Go.Ground.phase }, { on := 3, ground := Go.Ground.phase }, { on := 4, ground := Go.Ground.phase }, { on := 5, ground := Go.Ground.phase }, { on := 6, ground := Go.Ground.phase }, { on := 7, ground := Go.Ground.phase }, { on := 8, ground := Go.Ground.phase }, { on := 9, ground := Go.Ground.phase }, { on := 10, ground := Go.Ground.phase }, { on := 11, ground := Go.Ground.phase }, { on := 12, ground := Go.Ground.phase }, { on := 13, ground := Go.Ground.phase }, { on := 14, ground := Go.Ground.phase }, { on := 15, ground := Go.Ground.phase }, { on := 16, ground := Go.Ground.phase }], guard := none }) rfl (fun K hK => ?_) AllReadyH.nil
                refine st_store (p := 14) (q := 77) (b := b14) (u := zW) (v := qd) rfl rfl rfl rfl P14.out.1 rfl (fun wn hrow hgr => ?_)
                replace P13 := Lib.hid (And.intro (keep_other P13.out.1 hgr (by have := D.out; omega)) P13.out.2)
                have HS2 := below_grown1 HS hgr P14.out.2
                replace P14 := Lib.hid (And.intro hrow P14.out.2)
                clear HS hrow hgr
                refine hK.out _ _ HS2 (fun HS => ?_)
                clear HS2 hK
                try simp only [Act.put, List.setIfInBounds_toArray, List.set_cons_zero, List.set_cons_succ]
                refine wpAnyH_done (by kernel_rfl) ?_ _
                refine NoPanic.normal ?_
                go_wp2
                go_meet
                case rel => exact ⟨b13, b14, rfl, rfl, P13.out.1, P14.out.1, HS⟩
              refine AllReadyH.cons (o := { dst := some 13, op := Go.Op.alloc 26, type := 0, pos := "law.go:83", after := #[], guard := none }) rfl (fun K hK => ?_) AllReadyH.nil
              refine st_alloc rfl rfl (fun b13 wn hge hrow hbel => ?_)
              have D : Hid (b13 ≠ b14) := Lib.hid (by have := (Array.getElem?_eq_some_iff.1 P14.out.1).1; omega)
              replace P14 := Lib.hid (And.intro (hp_on' P14.out.1 hbel) P14.out.2)
              have P13 := Lib.hid (And.intro hrow (Nat.le_trans HS.size hge))
              clear hrow hge
              have HS2 := HS.trans (hbel.mono HS.size)
              clear HS hbel
              refine hK.out _ _ HS2 (fun HS => ?_)
              clear HS2 hK
              try simp only [Act.put, List.setIfInBounds_toArray, List.set_cons_zero, List.set_cons_succ]
              refine wpAnyH_ready (rs := [13]) (by kernel_rfl) (by simp) ?_
              refine AllReadyH.cons (o := { dst := some 77, op := Go.Op.call { callee := Go.Callee.value (Go.Operand.func 16), args := #[Go.Operand.tmp 74, Go.Operand.tmp 75, Go.Operand.tmp 76], argTypes := #[26, 2, 46] }, type := 26, pos := "law.go:83", after := #[{ on := 10, ground := Go.Ground.data }, { on := 11, ground := Go.Ground.data }, { on := 12, ground := Go.Ground.data }, { on := 9, ground := Go.Ground.chain }], guard := none }) rfl (fun K hK => ?_) AllReadyH.nil
              go_simp
              refine (cT.out _).mono ?_; rintro e wn ⟨rfl, hbel⟩
              replace P13 := Lib.hid (And.intro (hp_on' P13.out.1 hbel) P13.out.2)
              replace P14 := Lib.hid (And.intro (hp_on' P14.out.1 hbel) P14.out.2)
              have HS2 := HS.trans (hbel.mono HS.size)
              clear HS hbel
              refine hK.out _ _ HS2 (fun HS => ?_)
              clear HS2 hK
              try simp only [Act.put, List.setIfInBounds_toArray, List.set_cons_zero, List.set_cons_succ]
              refine wpAnyH_ready (rs := [16]) (by kernel_rfl) (by simp) ?_
              refine AllReadyH.cons (o := { dst := none, op := Go.Op.store 26 (Go.Operand.tmp 13) (Go.Operand.tmp 73), type := 0, pos := "law.go:83", after := #[{ on := 14, ground := Go.Ground.data }, { on := 9, ground := Go.Ground.data }, { on := 13, ground := Go.Ground.chain }, { on := 0, ground := Go.Ground.phase }, { on := 1, ground := Go.Ground.phase }, { on := 2, ground := Go.Ground.phase }, { on := 3, ground := Go.Ground.phase }, { on := 4, ground := Go.Ground.phase }, { on := 5, ground := Go.Ground.phase }, { on := 6, ground := Go.Ground.phase }, { on := 7, ground := Go.Ground.phase }, { on := 8, ground := Go.Ground.phase }, { on := 9, ground := Go.Ground.phase }, { on := 10, ground := Go.Ground.textOnly Go.Departure.lateStores }, { on := 11, ground := Go.Ground.textOnly Go.Departure.lateStores }, { on := 12, ground := Go.Ground.textOnly Go.Departure.lateStores }, { on := 13, ground := Go.Ground.textOnly Go.Departure.lateStoresUnsure }, { on := 14, ground := Go.Ground.phase }, { on := 15, ground := Go.Ground.phase }], guard := none }) rfl (fun K hK => ?_) AllReadyH.nil
              refine st_store (p := 13) (q := 73) (b := b13) (u := zW) (v := qd) rfl rfl rfl rfl P13.out.1 rfl (fun wn hrow hgr => ?_)
              replace P14 := Lib.hid (And.intro (keep_other P14.out.1 hgr (by have := D.out; omega)) P14.out.2)
              have HS2 := below_grown1 HS hgr P13.out.2
              replace P13 := Lib.hid (And.intro hrow P13.out.2)
              clear HS hrow hgr
              refine hK.out _ _ HS2 (fun HS => ?_)
              clear HS2 hK
              try simp only [Act.put, List.setIfInBounds_toArray, List.set_cons_zero, List.set_cons_succ]
              refine wpAnyH_ready (rs := [17]) (by kernel_rfl) (by simp) ?_
              refine AllReadyH.cons (o := { dst := none, op := Go.Op.store 26 (Go.Operand.tmp 14) (Go.Operand.tmp 77), type := 0, pos := "law.go:83", after := #[{ on := 15, ground := Go.Ground.data }, { on := 13, ground := Go.Ground.data }, { on := 16, ground := Go.Ground.chain }, { on := 0, ground := Go.Ground.phase }, { on := 1, ground := Go.Ground.phase }, { on := 2, ground := Go.Ground.phase }, { on := 3, ground := Go.Ground.phase }, { on := 4, ground := Go.Ground.phase }, { on := 5, ground := Go.Ground.phase }, { on := 6, ground := Go.Ground.phase }, { on := 7, ground := Go.Ground.phase }, { on := 8, ground := Go.Ground.phase }, { on := 9, ground := Go.Ground.phase }, { on := 10, ground := Go.Ground.phase }, { on := 11, ground := Go.Ground.phase }, { on := 12, ground := Go.Ground.phase }, { on := 13, ground := Go.Ground.phase }, { on := 14, ground := Go.Ground.phase }, { on := 15, ground := Go.Ground.phase }, { on := 16, ground := Go.Ground.phase }], guard := none }) rfl (fun K hK => ?_) AllReadyH.nil
              refine st_store (p := 14) (q := 77) (b := b14) (u := zW) (v := qd) rfl rfl rfl rfl P14.out.1 rfl (fun wn hrow hgr => ?_)
              replace P13 := Lib.hid (And.intro (keep_other P13.out.1 hgr (by have := D.out; omega)) P13.out.2)
              have HS2 := below_grown1 HS hgr P14.out.2
              replace P14 := Lib.hid (And.intro hrow P14.out.2)
              clear HS hrow hgr
              refine hK.out _ _ HS2 (fun HS => ?_)
              clear HS2 hK
              try simp only [Act.put, List.setIfInBounds_toArray, List.set_cons_zero, List.set_cons_succ]
              refine wpAnyH_done (by kernel_rfl) ?_ _
              refine NoPanic.normal ?_
              go_wp2
              go_meet
              case rel => exact ⟨b13, b14, rfl, rfl, P13.out.1, P14.out.1, HS⟩
            refine AllReadyH.cons (o := { dst := some 13, op := Go.Op.alloc 26, type := 0, pos := "law.go:83", after := #[], guard := none }) rfl (fun K hK => ?_) AllReadyH.nil
            refine st_alloc rfl rfl (fun b13 wn hge hrow hbel => ?_)
            have D : Hid (b13 ≠ b14) := Lib.hid (by have := (Array.getElem?_eq_some_iff.1 P14.out.1).1; omega)
            replace RR := Lib.hid (RR.out.below hbel)
            replace P14 := Lib.hid (And.intro (hp_on' P14.out.1 hbel) P14.out.2)
            have P13 := Lib.hid (And.intro hrow (Nat.le_trans HS.size hge))
            clear hrow hge
            have HS2 := HS.trans (hbel.mono HS.size)
            clear HS hbel
            refine hK.out _ _ HS2 (fun HS => ?_)
            clear HS2 hK
            try simp only [Act.put, List.setIfInBounds_toArray, List.set_cons_zero, List.set_cons_succ]
            refine wpAnyH_ready (rs := [9]) (by kernel_rfl) (by simp) ?_
            refine AllReadyH.cons (o := { dst := some 73, op := Go.Op.call { callee := Go.Callee.value (Go.Operand.func 7), args := #[Go.Operand.tmp 72], argTypes := #[22] }, type := 26, pos := "law.go:83", after := #[{ on := 8, ground := Go.Ground.data }, { on := 8, ground := Go.Ground.chain }], guard := none }) rfl (fun K hK => ?_) AllReadyH.nil
            go_simp
            refine (cD.out _ A7 c7 RR.out).mono ?_; rintro e wn ⟨rfl, hbel⟩
            clear RR
            replace P13 := Lib.hid (And.intro (hp_on' P13.out.1 hbel) P13.out.2)
            replace P14 := Lib.hid (And.intro (hp_on' P14.out.1 hbel) P14.out.2)
            have HS2 := HS.trans (hbel.mono HS.size)
            clear HS hbel
            refine hK.out _ _ HS2 (fun HS => ?_)
            clear HS2 hK
            try simp only [Act.put, List.setIfInBounds_toArray, List.set_cons_zero, List.set_cons_succ]
            refine wpAnyH_ready (rs := [13]) (by kernel_rfl) (by simp) ?_
            refine AllReadyH.cons (o := { dst := some 77, op := Go.Op.call { callee := Go.Callee.value (Go.Operand.func 16), args := #[Go.Operand.tmp 74, Go.Operand.tmp 75, Go.Operand.tmp 76], argTypes := #[26, 2, 46] }, type := 26, pos := "law.go:83", after := #[{ on := 10, ground := Go.Ground.data }, { on := 11, ground := Go.Ground.data }, { on := 12, ground := Go.Ground.data }, { on := 9, ground := Go.Ground.chain }], guard := none }) rfl (fun K hK => ?_) AllReadyH.nil
            go_simp
            refine (cT.out _).mono ?_; rintro e wn ⟨rfl, hbel⟩
            replace P13 := Lib.hid (And.intro (hp_on' P13.out.1 hbel) P13.out.2)
            replace P14 := Lib.hid (And.intro (hp_on' P14.out.1 hbel) P14.out.2)
            have HS2 := HS.trans (hbel.mono HS.size)
            clear HS hbel
            refine hK.out _ _ HS2 (fun HS => ?_)
            clear HS2 hK
            try simp only [Act.put, List.setIfInBounds_toArray, List.set_cons_zero, List.set_cons_succ]
            refine wpAnyH_ready (rs := [16]) (by kernel_rfl) (by simp) ?_
            refine AllReadyH.cons (o := { dst := none, op := Go.Op.store 26 (Go.Operand.tmp 13) (Go.Operand.tmp 73), type := 0, pos := "law.go:83", after := #[{ on := 14, ground := Go.Ground.data }, { on := 9, ground := Go.Ground.data }, { on := 13, ground := Go.Ground.chain }, { on := 0, ground := Go.Ground.phase }, { on := 1, ground := Go.Ground.phase }, { on := 2, ground := Go.Ground.phase }, { on := 3, ground := Go.Ground.phase }, { on := 4, ground := Go.Ground.phase }, { on := 5, ground := Go.Ground.phase }, { on := 6, ground := Go.Ground.phase }, { on := 7, ground := Go.Ground.phase }, { on := 8, ground := Go.Ground.phase }, { on := 9, ground := Go.Ground.phase }, { on := 10, ground := Go.Ground.textOnly Go.Departure.lateStores }, { on := 11, ground := Go.Ground.textOnly Go.Departure.lateStores }, { on := 12, ground := Go.Ground.textOnly Go.Departure.lateStores }, { on := 13, ground := Go.Ground.textOnly Go.Departure.lateStoresUnsure }, { on := 14, ground := Go.Ground.phase }, { on := 15, ground := Go.Ground.phase }], guard := none }) rfl (fun K hK => ?_) AllReadyH.nil
            refine st_store (p := 13) (q := 73) (b := b13) (u := zW) (v := qd) rfl rfl rfl rfl P13.out.1 rfl (fun wn hrow hgr => ?_)
            replace P14 := Lib.hid (And.intro (keep_other P14.out.1 hgr (by have := D.out; omega)) P14.out.2)
            have HS2 := below_grown1 HS hgr P13.out.2
            replace P13 := Lib.hid (And.intro hrow P13.out.2)
            clear HS hrow hgr
            refine hK.out _ _ HS2 (fun HS => ?_)
            clear HS2 hK
            try simp only [Act.put, List.setIfInBounds_toArray, List.set_cons_zero, List.set_cons_succ]
            refine wpAnyH_ready (rs := [17]) (by kernel_rfl) (by simp) ?_
            refine AllReadyH.cons (o := { dst := none, op := Go.Op.store 26 (Go.Operand.tmp 14) (Go.Operand.tmp 77), type := 0, pos := "law.go:83", after := #[{ on := 15, ground := Go.Ground.data }, { on := 13, ground := Go.Ground.data }, { on := 16, ground := Go.Ground.chain }, { on := 0, ground := Go.Ground.phase }, { on := 1, ground := Go.Ground.phase }, { on := 2, ground := Go.Ground.phase }, { on := 3, ground := Go.Ground.phase }, { on := 4, ground := Go.Ground.phase }, { on := 5, ground := Go.Ground.phase }, { on := 6, ground := Go.Ground.phase }, { on := 7, ground := Go.Ground.phase }, { on := 8, ground := Go.Ground.phase }, { on := 9, ground := Go.Ground.phase }, { on := 10, ground := Go.Ground.phase }, { on := 11, ground := Go.Ground.phase }, { on := 12, ground := Go.Ground.phase }, { on := 13, ground := Go.Ground.phase }, { on := 14, ground := Go.Ground.phase }, { on := 15, ground := Go.Ground.phase }, { on := 16, ground := Go.Ground.phase }], guard := none }) rfl (fun K hK => ?_) AllReadyH.nil
            refine st_store (p := 14) (q := 77) (b := b14) (u := zW) (v := qd) rfl rfl rfl rfl P14.out.1 rfl (fun wn hrow hgr => ?_)
            replace P13 := Lib.hid (And.intro (keep_other P13.out.1 hgr (by have := D.out; omega)) P13.out.2)
            have HS2 := below_grown1 HS hgr P14.out.2
            replace P14 := Lib.hid (And.intro hrow P14.out.2)
            clear HS hrow hgr
            refine hK.out _ _ HS2 (fun HS => ?_)
            clear HS2 hK
            try simp only [Act.put, List.setIfInBounds_toArray, List.set_cons_zero, List.set_cons_succ]
            refine wpAnyH_done (by kernel_rfl) ?_ _
            refine NoPanic.normal ?_
            go_wp2
            go_meet
            case rel => exact ⟨b13, b14, rfl, rfl, P13.out.1, P14.out.1, HS⟩
          refine AllReadyH.cons (o := { dst := some 13, op := Go.Op.alloc 26, type := 0, pos := "law.go:83", after := #[], guard := none }) rfl (fun K hK => ?_) AllReadyH.nil
          refine st_alloc rfl rfl (fun b13 wn hge hrow hbel => ?_)
          have D : Hid (b13 ≠ b14) := Lib.hid (by have := (Array.getElem?_eq_some_iff.1 P14.out.1).1; omega)
          replace N := Lib.hid (And.intro (hp_on' N.out.1 hbel) N.out.2)
          replace P14 := Lib.hid (And.intro (hp_on' P14.out.1 hbel) P14.out.2)
          have P13 := Lib.hid (And.intro hrow (Nat.le_trans HS.size hge))
          clear hrow hge
          have HS2 := HS.trans (hbel.mono HS.size)
          clear HS hbel
          refine hK.out _ _ HS2 (fun HS => ?_)
          clear HS2 hK
          try simp only [Act.put, List.setIfInBounds_toArray, List.set_cons_zero, List.set_cons_succ]
          refine wpAnyH_ready (rs := [8]) (by kernel_rfl) (by simp) ?_
          refine AllReadyH.cons (o := { dst := some 72, op := Go.Op.call { callee := Go.Callee.builtin Go.Builtin.append, args := #[Go.Operand.tmp 69, Go.Operand.tmp 71], argTypes := #[22, 22] }, type := 22, pos := "law.go:83", after := #[{ on := 5, ground := Go.Ground.data }, { on := 7, ground := Go.Ground.data }], guard := none }) rfl (fun K hK => ?_) AllReadyH.nil
          refine step_append_grows rfl (.tmp 69) (.tmp 71) 22 rfl 46 i0 _ 4 32 Try.underlying22 HI.out.1 HI.out.2.1 HI.out.2.2.1 HI.out.2.2.2 rfl (by decide) A l.length l.length (tCells l) rfl (fun e => ⟨(HA.out e).1, (HA.out e).1⟩) (tCells_len l) (trow_cells (L6.out.ra.below HS)) ⟨bn, 0, none⟩ 1 1 [.int .u64 t0, .int .u64 t1, .int .i64 t2, .int .i64 t3] rfl rfl (World.news_of_block N.out.1) (by simp [Value.oneCell']) (by omega) (by unfold maxLen; omega) (by omega) ?_
          intro v7 wn hown hgr
          obtain ⟨A7, c7, rfl, hrr⟩ := trow_snoc (t := ⟨t0, t1, t2, t3⟩) hown
          have hbel := below_grown0 hgr
          clear N hown hgr
          replace P13 := Lib.hid (And.intro (hp_on' P13.out.1 hbel) P13.out.2)
          replace P14 := Lib.hid (And.intro (hp_on' P14.out.1 hbel) P14.out.2)
          have RR := Lib.hid hrr
          clear hrr
          have HS2 := HS.trans (hbel.mono HS.size)
          clear HS hbel
          refine hK.out _ _ HS2 (fun HS => ?_)
          clear HS2 hK
          try simp only [Act.put, List.setIfInBounds_toArray, List.set_cons_zero, List.set_cons_succ]
          refine wpAnyH_ready (rs := [9]) (by kernel_rfl) (by simp) ?_
          refine AllReadyH.cons (o := { dst := some 73, op := Go.Op.call { callee := Go.Callee.value (Go.Operand.func 7), args := #[Go.Operand.tmp 72], argTypes := #[22] }, type := 26, pos := "law.go:83", after := #[{ on := 8, ground := Go.Ground.data }, { on := 8, ground := Go.Ground.chain }], guard := none }) rfl (fun K hK => ?_) AllReadyH.nil
          go_simp
          refine (cD.out _ A7 c7 RR.out).mono ?_; rintro e wn ⟨rfl, hbel⟩
          clear RR
          replace P13 := Lib.hid (And.intro (hp_on' P13.out.1 hbel) P13.out.2)
          replace P14 := Lib.hid (And.intro (hp_on' P14.out.1 hbel) P14.out.2)
          have HS2 := HS.trans (hbel.mono HS.size)
          clear HS hbel
          refine hK.out _ _ HS2 (fun HS => ?_)
          clear HS2 hK
          try simp only [Act.put, List.setIfInBounds_toArray, List.set_cons_zero, List.set_cons_succ]
          refine wpAnyH_ready (rs := [13]) (by kernel_rfl) (by simp) ?_
          refine AllReadyH.cons (o := { dst := some 77, op := Go.Op.call { callee := Go.Callee.value (Go.Operand.func 16), args := #[Go.Operand.tmp 74, Go.Operand.tmp 75, Go.Operand.tmp 76], argTypes := #[26, 2, 46] }, type := 26, pos := "law.go:83", after := #[{ on := 10, ground := Go.Ground.data }, { on := 11, ground := Go.Ground.data }, { on := 12, ground := Go.Ground.data }, { on := 9, ground := Go.Ground.chain }], guard := none }) rfl (fun K hK => ?_) AllReadyH.nil
          go_simp
          refine (cT.out _).mono ?_; rintro e wn ⟨rfl, hbel⟩
          replace P13 := Lib.hid (And.intro (hp_on' P13.out.1 hbel) P13.out.2)
          replace P14 := Lib.hid (And.intro (hp_on' P14.out.1 hbel) P14.out.2)
          have HS2 := HS.trans (hbel.mono HS.size)
          clear HS hbel
          refine hK.out _ _ HS2 (fun HS => ?_)
          clear HS2 hK
          try simp only [Act.put, List.setIfInBounds_toArray, List.set_cons_zero, List.set_cons_succ]
          refine wpAnyH_ready (rs := [16]) (by kernel_rfl) (by simp) ?_
          refine AllReadyH.cons (o := { dst := none, op := Go.Op.store 26 (Go.Operand.tmp 13) (Go.Operand.tmp 73), type := 0, pos := "law.go:83", after := #[{ on := 14, ground := Go.Ground.data }, { on := 9, ground := Go.Ground.data }, { on := 13, ground := Go.Ground.chain }, { on := 0, ground := Go.Ground.phase }, { on := 1, ground := Go.Ground.phase }, { on := 2, ground := Go.Ground.phase }, { on := 3, ground := Go.Ground.phase }, { on := 4, ground := Go.Ground.phase }, { on := 5, ground := Go.Ground.phase }, { on := 6, ground := Go.Ground.phase }, { on := 7, ground := Go.Ground.phase }, { on := 8, ground := Go.Ground.phase }, { on := 9, ground := Go.Ground.phase }, { on := 10, ground := Go.Ground.textOnly Go.Departure.lateStores }, { on := 11, ground := Go.Ground.textOnly Go.Departure.lateStores }, { on := 12, ground := Go.Ground.textOnly Go.Departure.lateStores }, { on := 13, ground := Go.Ground.textOnly Go.Departure.lateStoresUnsure }, { on := 14, ground := Go.Ground.phase }, { on := 15, ground := Go.Ground.phase }], guard := none }) rfl (fun K hK => ?_) AllReadyH.nil
          refine st_store (p := 13) (q := 73) (b := b13) (u := zW) (v := qd) rfl rfl rfl rfl P13.out.1 rfl (fun wn hrow hgr => ?_)
          replace P14 := Lib.hid (And.intro (keep_other P14.out.1 hgr (by have := D.out; omega)) P14.out.2)
          have HS2 := below_grown1 HS hgr P13.out.2
          replace P13 := Lib.hid (And.intro hrow P13.out.2)
          clear HS hrow hgr
          refine hK.out _ _ HS2 (fun HS => ?_)
          clear HS2 hK
          try simp only [Act.put, List.setIfInBounds_toArray, List.set_cons_zero, List.set_cons_succ]
          refine wpAnyH_ready (rs := [17]) (by kernel_rfl) (by simp) ?_
          refine AllReadyH.cons (o := { dst := none, op := Go.Op.store 26 (Go.Operand.tmp 14) (Go.Operand.tmp 77), type := 0, pos := "law.go:83", after := #[{ on := 15, ground := Go.Ground.data }, { on := 13, ground := Go.Ground.data }, { on := 16, ground := Go.Ground.chain }, { on := 0, ground := Go.Ground.phase }, { on := 1, ground := Go.Ground.phase }, { on := 2, ground := Go.Ground.phase }, { on := 3, ground := Go.Ground.phase }, { on := 4, ground := Go.Ground.phase }, { on := 5, ground := Go.Ground.phase }, { on := 6, ground := Go.Ground.phase }, { on := 7, ground := Go.Ground.phase }, { on := 8, ground := Go.Ground.phase }, { on := 9, ground := Go.Ground.phase }, { on := 10, ground := Go.Ground.phase }, { on := 11, ground := Go.Ground.phase }, { on := 12, ground := Go.Ground.phase }, { on := 13, ground := Go.Ground.phase }, { on := 14, ground := Go.Ground.phase }, { on := 15, ground := Go.Ground.phase }, { on := 16, ground := Go.Ground.phase }], guard := none }) rfl (fun K hK => ?_) AllReadyH.nil
          refine st_store (p := 14) (q := 77) (b := b14) (u := zW) (v := qd) rfl rfl rfl rfl P14.out.1 rfl (fun wn hrow hgr => ?_)
          replace P13 := Lib.hid (And.intro (keep_other P13.out.1 hgr (by have := D.out; omega)) P13.out.2)
          have HS2 := below_grown1 HS hgr P14.out.2
          replace P14 := Lib.hid (And.intro hrow P14.out.2)
          clear HS hrow hgr
          refine hK.out _ _ HS2 (fun HS => ?_)
          clear HS2 hK
          try simp only [Act.put, List.setIfInBounds_toArray, List.set_cons_zero, List.set_cons_succ]
          refine wpAnyH_done (by kernel_rfl) ?_ _
          refine NoPanic.normal ?_
          go_wp2
          go_meet
          case rel => exact ⟨b13, b14, rfl, rfl, P13.out.1, P14.out.1, HS⟩
        refine AllReadyH.cons (o := { dst := some 13, op := Go.Op.alloc 26, type := 0, pos := "law.go:83", after := #[], guard := none }) rfl (fun K hK => ?_) ?_
        · skip
          refine st_alloc rfl rfl (fun b13 wn hge hrow hbel => ?_)
          have P13 := Lib.hid (And.intro hrow (Nat.le_trans HS.size hge))
          clear hrow hge
          have HS2 := HS.trans (hbel.mono HS.size)
          clear HS hbel
          refine hK.out _ _ HS2 (fun HS => ?_)
          clear HS2 hK
          try simp only [Act.put, List.setIfInBounds_toArray, List.set_cons_zero, List.set_cons_succ]
          refine wpAnyH_ready (rs := [7, 15]) (by kernel_rfl) (by simp) ?_
          refine AllReadyH.cons (o := { dst := some 71, op := Go.Op.buildSlice 22 1 #[(0, Go.Operand.tmp 70)], type := 22, pos := "law.go:83", after := #[{ on := 6, ground := Go.Ground.data }], guard := none }) rfl (fun K hK => ?_) ?_
          · skip
            refine st_news (y := 70) rfl rfl rfl (fun bn wn hge hrow hbel => ?_)
            replace P13 := Lib.hid (And.intro (hp_on' P13.out.1 hbel) P13.out.2)
            have N := Lib.hid (And.intro hrow (Nat.le_trans HS.size hge))
            clear hrow hge
            have HS2 := HS.trans (hbel.mono HS.size)
            clear HS hbel
            refine hK.out _ _ HS2 (fun HS => ?_)
            clear HS2 hK
            try simp only [Act.put, List.setIfInBounds_toArray, List.set_cons_zero, List.set_cons_succ]
            refine wpAnyH_ready (rs := [8, 15]) (by kernel_rfl) (by simp) ?_
            refine AllReadyH.cons (o := { dst := some 72, op := Go.Op.call { callee := Go.Callee.builtin Go.Builtin.append, args := #[Go.Operand.tmp 69, Go.Operand.tmp 71], argTypes := #[22, 22] }, type := 22, pos := "law.go:83", after := #[{ on := 5, ground := Go.Ground.data }, { on := 7, ground := Go.Ground.data }], guard := none }) rfl (fun K hK => ?_) ?_
            · skip
              refine step_append_grows rfl (.tmp 69) (.tmp 71) 22 rfl 46 i0 _ 4 32 Try.underlying22 HI.out.1 HI.out.2.1 HI.out.2.2.1 HI.out.2.2.2 rfl (by decide) A l.length l.length (tCells l) rfl (fun e => ⟨(HA.out e).1, (HA.out e).1⟩) (tCells_len l) (trow_cells (L6.out.ra.below HS)) ⟨bn, 0, none⟩ 1 1 [.int .u64 t0, .int .u64 t1, .int .i64 t2, .int .i64 t3] rfl rfl (World.news_of_block N.out.1) (by simp [Value.oneCell']) (by omega) (by unfold maxLen; omega) (by omega) ?_
              intro v7 wn hown hgr
              obtain ⟨A7, c7, rfl, hrr⟩ := trow_snoc (t := ⟨t0, t1, t2, t3⟩) hown
              have hbel := below_grown0 hgr
              clear N hown hgr
              replace P13 := Lib.hid (And.intro (hp_on' P13.out.1 hbel) P13.out.2)
              have RR := Lib.hid hrr
              clear hrr
              have HS2 := HS.trans (hbel.mono HS.size)
              clear HS hbel
              refine hK.out _ _ HS2 (fun HS => ?_)
              clear HS2 hK
              try simp only [Act.put, List.setIfInBounds_toArray, List.set_cons_zero, List.set_cons_succ]
              refine wpAnyH_ready (rs := [9, 15]) (by kernel_rfl) (by simp) ?_
              refine AllReadyH.cons (o := { dst := some 73, op := Go.Op.call { callee := Go.Callee.value (Go.Operand.func 7), args := #[Go.Operand.tmp 72], argTypes := #[22] }, type := 26, pos := "law.go:83", after := #[{ on := 8, ground := Go.Ground.data }, { on := 8, ground := Go.Ground.chain }], guard := none }) rfl (fun K hK => ?_) ?_
              · skip
                go_simp
                refine (cD.out _ A7 c7 RR.out).mono ?_; rintro e wn ⟨rfl, hbel⟩
                clear RR
                replace P13 := Lib.hid (And.intro (hp_on' P13.out.1 hbel) P13.out.2)
                have HS2 := HS.trans (hbel.mono HS.size)
                clear HS hbel
                refine hK.out _ _ HS2 (fun HS => ?_)
                clear HS2 hK
                try simp only [Act.put, List.setIfInBounds_toArray, List.set_cons_zero, List.set_cons_succ]
                refine wpAnyH_ready (rs := [13, 15]) (by kernel_rfl) (by simp) ?_
                refine AllReadyH.cons (o := { dst := some 77, op := Go.Op.call { callee := Go.Callee.value (Go.Operand.func 16), args := #[Go.Operand.tmp 74, Go.Operand.tmp 75, Go.Operand.tmp 76], argTypes := #[26, 2, 46] }, type := 26, pos := "law.go:83", after := #[{ on := 10, ground := Go.Ground.data }, { on := 11, ground := Go.Ground.data }, { on := 12, ground := Go.Ground.data }, { on := 9, ground := Go.Ground.chain }], guard := none }) rfl (fun K hK => ?_) ?_
                · skip
                  go_simp
                  refine (cT.out _).mono ?_; rintro e wn ⟨rfl, hbel⟩
                  replace P13 := Lib.hid (And.intro (hp_on' P13.out.1 hbel) P13.out.2)
                  have HS2 := HS.trans (hbel.mono HS.size)
                  clear HS hbel
                  refine hK.out _ _ HS2 (fun HS => ?_)
                  clear HS2 hK
                  try simp only [Act.put, List.setIfInBounds_toArray, List.set_cons_zero, List.set_cons_succ]
                  refine wpAnyH_ready (rs := [15]) (by kernel_rfl) (by simp) ?_
                  refine AllReadyH.cons (o := { dst := some 14, op := Go.Op.alloc 26, type := 0, pos := "law.go:83", after := #[], guard := none }) rfl (fun K hK => ?_) AllReadyH.nil
                  refine st_alloc rfl rfl (fun b14 wn hge hrow hbel => ?_)
                  have D : Hid (b13 ≠ b14) := Lib.hid (by have := (Array.getElem?_eq_some_iff.1 P13.out.1).1; omega)
                  replace P13 := Lib.hid (And.intro (hp_on' P13.out.1 hbel) P13.out.2)
                  have P14 := Lib.hid (And.intro hrow (Nat.le_trans HS.size hge))
                  clear hrow hge
                  have HS2 := HS.trans (hbel.mono HS.size)
                  clear HS hbel
                  refine hK.out _ _ HS2 (fun HS => ?_)
                  clear HS2 hK
                  try simp only [Act.put, List.setIfInBounds_toArray, List.set_cons_zero, List.set_cons_succ]
                  refine wpAnyH_ready (rs := [16]) (by kernel_rfl) (by simp) ?_
                  refine AllReadyH.cons (o := { dst := none, op := Go.Op.store 26 (Go.Operand.tmp 13) (Go.Operand.tmp 73), type := 0, pos := "law.go:83", after := #[{ on := 14, ground := Go.Ground.data }, { on := 9, ground := Go.Ground.data }, { on := 13, ground := Go.Ground.chain }, { on := 0, ground := Go.Ground.phase }, { on := 1, ground := Go.Ground.phase }, { on := 2, ground := Go.Ground.phase }, { on := 3, ground := Go.Ground.phase }, { on := 4, ground := Go.Ground.phase }, { on := 5, ground := Go.Ground.phase }, { on := 6, ground := Go.Ground.phase }, { on := 7, ground := Go.Ground.phase }, { on := 8, ground := Go.Ground.phase }, { on := 9, ground := Go.Ground.phase }, { on := 10, ground := Go.Ground.textOnly Go.Departure.lateStores }, { on := 11, ground := Go.Ground.textOnly Go.Departure.lateStores }, { on := 12, ground := Go.Ground.textOnly Go.Departure.lateStores }, { on := 13, ground := Go.Ground.textOnly Go.Departure.lateStoresUnsure }, { on := 14, ground := Go.Ground.phase }, { on := 15, ground := Go.Ground.phase }], guard := none }) rfl (fun K hK => ?_) AllReadyH.nil
                  refine st_store (p := 13) (q := 73) (b := b13) (u := zW) (v := qd) rfl rfl rfl rfl P13.out.1 rfl (fun wn hrow hgr => ?_)
                  replace P14 := Lib.hid (And.intro (keep_other P14.out.1 hgr (by have := D.out; omega)) P14.out.2)
                  have HS2 := below_grown1 HS hgr P13.out.2
                  replace P13 := Lib.hid (And.intro hrow P13.out.2)
                  clear HS hrow hgr
                  refine hK.out _ _ HS2 (fun HS => ?_)
                  clear HS2 hK
                  try simp only [Act.put, List.setIfInBounds_toArray, List.set_cons_zero, List.set_cons_succ]
                  refine wpAnyH_ready (rs := [17]) (by kernel_rfl) (by simp) ?_
                  refine AllReadyH.cons (o := { dst := none, op := Go.Op.store 26 (Go.Operand.tmp 14) (Go.Operand.tmp 77), type := 0, pos := "law.go:83", after := #[{ on := 15, ground := Go.Ground.data }, { on := 13, ground := Go.Ground.data }, { on := 16, ground := Go.Ground.chain }, { on := 0, ground := Go.Ground.phase }, { on := 1, ground := Go.Ground.phase }, { on := 2, ground := Go.Ground.phase }, { on := 3, ground := Go.Ground.phase }, { on := 4, ground := Go.Ground.phase }, { on := 5, ground := Go.Ground.phase }, { on := 6, ground := Go.Ground.phase }, { on := 7, ground := Go.Ground.phase }, { on := 8, ground := Go.Ground.phase }, { on := 9, ground := Go.Ground.phase }, { on := 10, ground := Go.Ground.phase }, { on := 11, ground := Go.Ground.phase }, { on := 12, ground := Go.Ground.phase }, { on := 13, ground := Go.Ground.phase }, { on := 14, ground := Go.Ground.phase }, { on := 15, ground := Go.Ground.phase }, { on := 16, ground := Go.Ground.phase }], guard := none }) rfl (fun K hK => ?_) AllReadyH.nil
                  refine st_store (p := 14) (q := 77) (b := b14) (u := zW) (v := qd) rfl rfl rfl rfl P14.out.1 rfl (fun wn hrow hgr => ?_)
                  replace P13 := Lib.hid (And.intro (keep_other P13.out.1 hgr (by have := D.out; omega)) P13.out.2)
                  have HS2 := below_grown1 HS hgr P14.out.2
                  replace P14 := Lib.hid (And.intro hrow P14.out.2)
                  clear HS hrow hgr
                  refine hK.out _ _ HS2 (fun HS => ?_)
                  clear HS2 hK
                  try simp only [Act.put, List.setIfInBounds_toArray, List.set_cons_zero, List.set_cons_succ]
                  refine wpAnyH_done (by kernel_rfl) ?_ _
                  refine NoPanic.normal ?_
                  go_wp2
                  go_meet
                  case rel => exact ⟨b13, b14, rfl, rfl, P13.out.1, P14.out.1, HS⟩
                refine AllReadyH.cons (o := { dst := some 14, op := Go.Op.alloc 26, type := 0, pos := "law.go:83", after := #[], guard := none }) rfl (fun K hK => ?_) AllReadyH.nil
                refine st_alloc rfl rfl (fun b14 wn hge hrow hbel => ?_)
                have D : Hid (b13 ≠ b14) := Lib.hid (by have := (Array.getElem?_eq_some_iff.1 P13.out.1).1; omega)
                replace P13 := Lib.hid (And.intro (hp_on' P13.out.1 hbel) P13.out.2)
                have P14 := Lib.hid (And.intro hrow (Nat.le_trans HS.size hge))
                clear hrow hge
                have HS2 := HS.trans (hbel.mono HS.size)
                clear HS hbel
                refine hK.out _ _ HS2 (fun HS => ?_)
                clear HS2 hK
                try simp only [Act.put, List.setIfInBounds_toArray, List.set_cons_zero, List.set_cons_succ]
                refine wpAnyH_ready (rs := [13]) (by kernel_rfl) (by simp) ?_
                refine AllReadyH.cons (o := { dst := some 77, op := Go.Op.call { callee := Go.Callee.value (Go.Operand.func 16), args := #[Go.Operand.tmp 74, Go.Operand.tmp 75, Go.Operand.tmp 76], argTypes := #[26, 2, 46] }, type := 26, pos := "law.go:83", after := #[{ on := 10, ground := Go.Ground.data }, { on := 11, ground := Go.Ground.data }, { on := 12, ground := Go.Ground.data }, { on := 9, ground := Go.Ground.chain }], guard := none }) rfl (fun K hK => ?_) AllReadyH.nil
                go_simp
                refine (cT.out _).mono ?_; rintro e wn ⟨rfl, hbel⟩
                replace P13 := Lib.hid (And.intro (hp_on' P13.out.1 hbel) P13.out.2)
                replace P14 := Lib.hid (And.intro (hp_on' P14.out.1 hbel) P14.out.2)
                have HS2 := HS.trans (hbel.mono HS.size)
                clear HS hbel
                refine hK.out _ _ HS2 (fun HS => ?_)
                clear HS2 hK
                try simp only [Act.put, List.setIfInBounds_toArray, List.set_cons_zero, List.set_cons_succ]
                refine wpAnyH_ready (rs := [16]) (by kernel_rfl) (by simp) ?_
                refine AllReadyH.cons (o := { dst := none, op := Go.Op.store 26 (Go.Operand.tmp 13) (Go.Operand.tmp 73), type := 0, pos := "law.go:83", after := #[{ on := 14, ground := Go.Ground.data }, { on := 9, ground := Go.Ground.data }, { on := 13, ground := Go.Ground.chain }, { on := 0, ground := Go.Ground.phase }, { on := 1, ground := Go.Ground.phase }, { on := 2, ground := Go.Ground.phase }, { on := 3, ground := Go.Ground.phase }, { on := 4, ground := Go.Ground.phase }, { on := 5, ground := Go.Ground.phase }, { on := 6, ground := Go.Ground.phase }, { on := 7, ground := Go.Ground.phase }, { on := 8, ground := Go.Ground.phase }, { on := 9, ground := Go.Ground.phase }, { on := 10, ground := Go.Ground.textOnly Go.Departure.lateStores }, { on := 11, ground := Go.Ground.textOnly Go.Departure.lateStores }, { on := 12, ground := Go.Ground.textOnly Go.Departure.lateStores }, { on := 13, ground := Go.Ground.textOnly Go.Departure.lateStoresUnsure }, { on := 14, ground := Go.Ground.phase }, { on := 15, ground := Go.Ground.phase }], guard := none }) rfl (fun K hK => ?_) AllReadyH.nil
                refine st_store (p := 13) (q := 73) (b := b13) (u := zW) (v := qd) rfl rfl rfl rfl P13.out.1 rfl (fun wn hrow hgr => ?_)
                replace P14 := Lib.hid (And.intro (keep_other P14.out.1 hgr (by have := D.out; omega)) P14.out.2)
                have HS2 := below_grown1 HS hgr P13.out.2
                replace P13 := Lib.hid (And.intro hrow P13.out.2)
                clear HS hrow hgr
                refine hK.out _ _ HS2 (fun HS => ?_)
                clear HS2 hK
                try simp only [Act.put, List.setIfInBounds_toArray, List.set_cons_zero, List.set_cons_succ]
                refine wpAnyH_ready (rs := [17]) (by kernel_rfl) (by simp) ?_
                refine AllReadyH.cons (o := { dst := none, op := Go.Op.store 26 (Go.Operand.tmp 14) (Go.Operand.tmp 77), type := 0, pos := "law.go:83", after := #[{ on := 15, ground := Go.Ground.data }, { on := 13, ground := Go.Ground.data }, { on := 16, ground := Go.Ground.chain }, { on := 0, ground := Go.Ground.phase }, { on := 1, ground := Go.Ground.phase }, { on := 2, ground := Go.Ground.phase }, { on := 3, ground := Go.Ground.phase }, { on := 4, ground := Go.Ground.phase }, { on := 5, ground := Go.Ground.phase }, { on := 6, ground := Go.Ground.phase }, { on := 7, ground := Go.Ground.phase }, { on := 8, ground := Go.Ground.phase }, { on := 9, ground := Go.Ground.phase }, { on := 10, ground := Go.Ground.phase }, { on := 11, ground := Go.Ground.phase }, { on := 12, ground := Go.Ground.phase }, { on := 13, ground := Go.Ground.phase }, { on := 14, ground := Go.Ground.phase }, { on := 15, ground := Go.Ground.phase }, { on := 16, ground := Go.Ground.phase }], guard := none }) rfl (fun K hK => ?_) AllReadyH.nil
                refine st_store (p := 14) (q := 77) (b := b14) (u := zW) (v := qd) rfl rfl rfl rfl P14.out.1 rfl (fun wn hrow hgr => ?_)
                replace P13 := Lib.hid (And.intro (keep_other P13.out.1 hgr (by have := D.out; omega)) P13.out.2)
                have HS2 := below_grown1 HS hgr P14.out.2
                replace P14 := Lib.hid (And.intro hrow P14.out.2)
                clear HS hrow hgr
                refine hK.out _ _ HS2 (fun HS => ?_)
                clear HS2 hK
                try simp only [Act.put, List.setIfInBounds_toArray, List.set_cons_zero, List.set_cons_succ]
                refine wpAnyH_done (by kernel_rfl) ?_ _
                refine NoPanic.normal ?_
                go_wp2
                go_meet
                case rel => exact ⟨b13, b14, rfl, rfl, P13.out.1, P14.out.1, HS⟩
              refine AllReadyH.cons (o := { dst := some 14, op := Go.Op.alloc 26, type := 0, pos := "law.go:83", after := #[], guard := none }) rfl (fun K hK => ?_) AllReadyH.nil
              refine st_alloc rfl rfl (fun b14 wn hge hrow hbel => ?_)
              have D : Hid (b13 ≠ b14) := Lib.hid (by have := (Array.getElem?_eq_some_iff.1 P13.out.1).1; omega)
              replace RR := Lib.hid (RR.out.below hbel)
              replace P13 := Lib.hid (And.intro (hp_on' P13.out.1 hbel) P13.out.2)
              have P14 := Lib.hid (And.intro hrow (Nat.le_trans HS.size hge))
              clear hrow hge
              have HS2 := HS.trans (hbel.mono HS.size)
              clear HS hbel
              refine hK.out _ _ HS2 (fun HS => ?_)
              clear HS2 hK
              try simp only [Act.put, List.setIfInBounds_toArray, List.set_cons_zero, List.set_cons_succ]
              refine wpAnyH_ready (rs := [9]) (by kernel_rfl) (by simp) ?_
              refine AllReadyH.cons (o := { dst := some 73, op := Go.Op.call { callee := Go.Callee.value (Go.Operand.func 7), args := #[Go.Operand.tmp 72], argTypes := #[22] }, type := 26, pos := "law.go:83", after := #[{ on := 8, ground := Go.Ground.data }, { on := 8, ground := Go.Ground.chain }], guard := none }) rfl (fun K hK => ?_) AllReadyH.nil
              go_simp
              refine (cD.out _ A7 c7 RR.out).mono ?_; rintro e wn ⟨rfl, hbel⟩
              clear RR
              replace P13 := Lib.hid (And.intro (hp_on' P13.out.1 hbel) P13.out.2)
              replace P14 := Lib.hid (And.intro (hp_on' P14.out.1 hbel) P14.out.2)
              have HS2 := HS.trans (hbel.mono HS.size)
              clear HS hbel
              refine hK.out _ _ HS2 (fun HS => ?_)
              clear HS2 hK
              try simp only [Act.put, List.setIfInBounds_toArray, List.set_cons_zero, List.set_cons_succ]
              refine wpAnyH_ready (rs := [13]) (by kernel_rfl) (by simp) ?_
              refine AllReadyH.cons (o := { dst := some 77, op := Go.Op.call { callee := Go.Callee.value (Go.Operand.func 16), args := #[Go.Operand.tmp 74, Go.Operand.tmp 75, Go.Operand.tmp 76], argTypes := #[26, 2, 46] }, type := 26, pos := "law.go:83", after := #[{ on := 10, ground := Go.Ground.data }, { on := 11, ground := Go.Ground.data }, { on := 12, ground := Go.Ground.data }, { on := 9, ground := Go.Ground.chain }], guard := none }) rfl (fun K hK => ?_) AllReadyH.nil
              go_simp
              refine (cT.out _).mono ?_; rintro e wn ⟨rfl, hbel⟩
              replace P13 := Lib.hid (And.intro (hp_on' P13.out.1 hbel) P13.out.2)
              replace P14 := Lib.hid (And.intro (hp_on' P14.out.1 hbel) P14.out.2)
              have HS2 := HS.trans (hbel.mono HS.size)
              clear HS hbel
              refine hK.out _ _ HS2 (fun HS => ?_)
              clear HS2 hK
              try simp only [Act.put, List.setIfInBounds_toArray, List.set_cons_zero, List.set_cons_succ]
              refine wpAnyH_ready (rs := [16]) (by kernel_rfl) (by simp) ?_
              refine AllReadyH.cons (o := { dst := none, op := Go.Op.store 26 (Go.Operand.tmp 13) (Go.Operand.tmp 73), type := 0, pos := "law.go:83", after := #[{ on := 14, ground := Go.Ground.data }, { on := 9, ground := Go.Ground.data }, { on := 13, ground := Go.Ground.chain }, { on := 0, ground := Go.Ground.phase }, { on := 1, ground := Go.Ground.phase }, { on := 2, ground := Go.Ground.phase }, { on := 3, ground := Go.Ground.phase }, { on := 4, ground := Go.Ground.phase }, { on := 5, ground := Go.Ground.phase }, { on := 6, ground := Go.Ground.phase }, { on := 7, ground := Go.Ground.phase }, { on := 8, ground := Go.Ground.phase }, { on := 9, ground := Go.Ground.phase }, { on := 10, ground := Go.Ground.textOnly Go.Departure.lateStores }, { on := 11, ground := Go.Ground.textOnly Go.Departure.lateStores }, { on := 12, ground := Go.Ground.textOnly Go.Departure.lateStores }, { on := 13, ground := Go.Ground.textOnly Go.Departure.lateStoresUnsure }, { on := 14, ground := Go.Ground.phase }, { on := 15, ground := Go.Ground.phase }], guard := none }) rfl (fun K hK => ?_) AllReadyH.nil
              refine st_store (p := 13) (q := 73) (b := b13) (u := zW) (v := qd) rfl rfl rfl rfl P13.out.1 rfl (fun wn hrow hgr => ?_)
              replace P14 := Lib.hid (And.intro (keep_other P14.out.1 hgr (by have := D.out; omega)) P14.out.2)
              have HS2 := below_grown1 HS hgr P13.out.2
              replace P13 := Lib.hid (And.intro hrow P13.out.2)
              clear HS hrow hgr
              refine hK.out _ _ HS2 (fun HS => ?_)
              clear HS2 hK
              try simp only [Act.put, List.setIfInBounds_toArray, List.set_cons_zero, List.set_cons_succ]
              refine wpAnyH_ready (rs := [17]) (by kernel_rfl) (by simp) ?_
              refine AllReadyH.cons (o := { dst := none, op := Go.Op.store 26 (Go.Operand.tmp 14) (Go.Operand.tmp 77), type := 0, pos := "law.go:83", after := #[{ on := 15, ground := Go.Ground.data }, { on := 13, ground := Go.Ground.data }, { on := 16, ground := Go.Ground.chain }, { on := 0, ground := Go.Ground.phase }, { on := 1, ground := Go.Ground.phase }, { on := 2, ground := Go.Ground.phase }, { on := 3, ground := Go.Ground.phase }, { on := 4, ground := Go.Ground.phase }, { on := 5, ground := Go.Ground.phase }, { on := 6, ground := Go.Ground.phase }, { on := 7, ground := Go.Ground.phase }, { on := 8, ground := Go.Ground.phase }, { on := 9, ground := Go.Ground.phase }, { on := 10, ground := Go.Ground.phase }, { on := 11, ground := Go.Ground.phase }, { on := 12, ground := Go.Ground.phase }, { on := 13, ground := Go.Ground.phase }, { on := 14, ground := Go.Ground.phase }, { on := 15, ground := Go.Ground.phase }, { on := 16, ground := Go.Ground.phase }], guard := none }) rfl (fun K hK => ?_) AllReadyH.nil
              refine st_store (p := 14) (q := 77) (b := b14) (u := zW) (v := qd) rfl rfl rfl rfl P14.out.1 rfl (fun wn hrow hgr => ?_)
              replace P13 := Lib.hid (And.intro (keep_other P13.out.1 hgr (by have := D.out; omega)) P13.out.2)
              have HS2 := below_grown1 HS hgr P14.out.2
              replace P14 := Lib.hid (And.intro hrow P14.out.2)
              clear HS hrow hgr
              refine hK.out _ _ HS2 (fun HS => ?_)
              clear HS2 hK
              try simp only [Act.put, List.setIfInBounds_toArray, List.set_cons_zero, List.set_cons_succ]
              refine wpAnyH_done (by kernel_rfl) ?_ _
              refine NoPanic.normal ?_
              go_wp2
              go_meet
              case rel => exact ⟨b13, b14, rfl, rfl, P13.out.1, P14.out.1, HS⟩
            refine AllReadyH.cons (o := { dst := some 14, op := Go.Op.alloc 26, type := 0, pos := "law.go:83", after := #[], guard := none }) rfl (fun K hK => ?_) AllReadyH.nil
            refine st_alloc rfl rfl (fun b14 wn hge hrow hbel => ?_)
            have D : Hid (b13 ≠ b14) := Lib.hid (by have := (Array.getElem?_eq_some_iff.1 P13.out.1).1; omega)
            replace N := Lib.hid (And.intro (hp_on' N.out.1 hbel) N.out.2)
            replace P13 := Lib.hid (And.intro (hp_on' P13.out.1 hbel) P13.out.2)
            have P14 := Lib.hid (And.intro hrow (Nat.le_trans HS.size hge))
            clear hrow hge
            have HS2 := HS.trans (hbel.mono HS.size)
            clear HS hbel
            refine hK.out _ _ HS2 (fun HS => ?_)
            clear HS2 hK
            try simp only [Act.put, List.setIfInBounds_toArray, List.set_cons_zero, List.set_cons_succ]
            refine wpAnyH_ready (rs := [8]) (by kernel_rfl) (by simp) ?_
            refine AllReadyH.cons (o := { dst := some 72, op := Go.Op.call { callee := Go.Callee.builtin Go.Builtin.append, args := #[Go.Operand.tmp 69, Go.Operand.tmp 71], argTypes := #[22, 22] }, type := 22, pos := "law.go:83", after := #[{ on := 5, ground := Go.Ground.data }, { on := 7, ground := Go.Ground.data }], guard := none }) rfl (fun K hK => ?_) AllReadyH.nil
            refine step_append_grows rfl (.tmp 69) (.tmp 71) 22 rfl 46 i0 _ 4 32 Try.underlying22 HI.out.1 HI.out.2.1 HI.out.2.2.1 HI.out.2.2.2 rfl (by decide) A l.length l.length (tCells l) rfl (fun e => ⟨(HA.out e).1, (HA.out e).1⟩) (tCells_len l) (trow_cells (L6.out.ra.below HS)) ⟨bn, 0, none⟩ 1 1 [.int .u64 t0, .int .u64 t1, .int .i64 t2, .int .i64 t3] rfl rfl (World.news_of_block N.out.1) (by simp [Value.oneCell']) (by omega) (by unfold maxLen; omega) (by omega) ?_
            intro v7 wn hown hgr
            obtain ⟨A7, c7, rfl, hrr⟩ := trow_snoc (t := ⟨t0, t1, t2, t3⟩) hown
            have hbel := below_grown0 hgr
            clear N hown hgr
            replace P13 := Lib.hid (And.intro (hp_on' P13.out.1 hbel) P13.out.2)
            replace P14 := Lib.hid (And.intro (hp_on' P14.out.1 hbel) P14.out.2)
            have RR := Lib.hid hrr
            clear hrr
            have HS2 := HS.trans (hbel.mono HS.size)
            clear HS hbel
            refine hK.out _ _ HS2 (fun HS => ?_)
            clear HS2 hK
            try simp only [Act.put, List.setIfInBounds_toArray, List.set_cons_zero, List.set_cons_succ]
            refine wpAnyH_ready (rs := [9]) (by kernel_rfl) (by simp) ?_
            refine AllReadyH.cons (o := { dst := some 73, op := Go.Op.call { callee := Go.Callee.value (Go.Operand.func 7), args := #[Go.Operand.tmp 72], argTypes := #[22] }, type := 26, pos := "law.go:83", after := #[{ on := 8, ground := Go.Ground.data }, { on := 8, ground := Go.Ground.chain }], guard := none }) rfl (fun K hK => ?_) AllReadyH.nil
            go_simp
            refine (cD.out _ A7 c7 RR.out).mono ?_; rintro e wn ⟨rfl, hbel⟩
            clear RR
            replace P13 := Lib.hid (And.intro (hp_on' P13.out.1 hbel) P13.out.2)
            replace P14 := Lib.hid (And.intro (hp_on' P14.out.1 hbel) P14.out.2)
            have HS2 := HS.trans (hbel.mono HS.size)
            clear HS hbel
            refine hK.out _ _ HS2 (fun HS => ?_)
            clear HS2 hK
            try simp only [Act.put, List.setIfInBounds_toArray, List.set_cons_zero, List.set_cons_succ]
            refine wpAnyH_ready (rs := [13]) (by kernel_rfl) (by simp) ?_
            refine AllReadyH.cons (o := { dst := some 77, op := Go.Op.call { callee := Go.Callee.value (Go.Operand.func 16), args := #[Go.Operand.tmp 74, Go.Operand.tmp 75, Go.Operand.tmp 76], argTypes := #[26, 2, 46] }, type := 26, pos := "law.go:83", after := #[{ on := 10, ground := Go.Ground.data }, { on := 11, ground := Go.Ground.data }, { on := 12, ground := Go.Ground.data }, { on := 9, ground := Go.Ground.chain }], guard := none }) rfl (fun K hK => ?_) AllReadyH.nil
            go_simp
            refine (cT.out _).mono ?_; rintro e wn ⟨rfl, hbel⟩
            replace P13 := Lib.hid (And.intro (hp_on' P13.out.1 hbel) P13.out.2)
            replace P14 := Lib.hid (And.intro (hp_on' P14.out.1 hbel) P14.out.2)
            have HS2 := HS.trans (hbel.mono HS.size)
            clear HS hbel
            refine hK.out _ _ HS2 (fun HS => ?_)
            clear HS2 hK
            try simp only [Act.put, List.setIfInBounds_toArray, List.set_cons_zero, List.set_cons_succ]
            refine wpAnyH_ready (rs := [16]) (by kernel_rfl) (by simp) ?_
            refine AllReadyH.cons (o := { dst := none, op := Go.Op.store 26 (Go.Operand.tmp 13) (Go.Operand.tmp 73), type := 0, pos := "law.go:83", after := #[{ on := 14, ground := Go.Ground.data }, { on := 9, ground := Go.Ground.data }, { on := 13, ground := Go.Ground.chain }, { on := 0, ground := Go.Ground.phase }, { on := 1, ground := Go.Ground.phase }, { on := 2, ground := Go.Ground.phase }, { on := 3, ground := Go.Ground.phase }, { on := 4, ground := Go.Ground.phase }, { on := 5, ground := Go.Ground.phase }, { on := 6, ground := Go.Ground.phase }, { on := 7, ground := Go.Ground.phase }, { on := 8, ground := Go.Ground.phase }, { on := 9, ground := Go.Ground.phase }, { on := 10, ground := Go.Ground.textOnly Go.Departure.lateStores }, { on := 11, ground := Go.Ground.textOnly Go.Departure.lateStores }, { on := 12, ground := Go.Ground.textOnly Go.Departure.lateStores }, { on := 13, ground := Go.Ground.textOnly Go.Departure.lateStoresUnsure }, { on := 14, ground := Go.Ground.phase }, { on := 15, ground := Go.Ground.phase }], guard := none }) rfl (fun K hK => ?_) AllReadyH.nil
            refine st_store (p := 13) (q := 73) (b := b13) (u := zW) (v := qd) rfl rfl rfl rfl P13.out.1 rfl (fun wn hrow hgr => ?_)
            replace P14 := Lib.hid (And.intro (keep_other P14.out.1 hgr (by have := D.out; omega)) P14.out.2)
            have HS2 := below_grown1 HS hgr P13.out.2
            replace P13 := Lib.hid (And.intro hrow P13.out.2)
            clear HS hrow hgr
            refine hK.out _ _ HS2 (fun HS => ?_)
            clear HS2 hK
            try simp only [Act.put, List.setIfInBounds_toArray, List.set_cons_zero, List.set_cons_succ]
            refine wpAnyH_ready (rs := [17]) (by kernel_rfl) (by simp) ?_
            refine AllReadyH.cons (o := { dst := none, op := Go.Op.store 26 (Go.Operand.tmp 14) (Go.Operand.tmp 77), type := 0, pos := "law.go:83", after := #[{ on := 15, ground := Go.Ground.data }, { on := 13, ground := Go.Ground.data }, { on := 16, ground := Go.Ground.chain }, { on := 0, ground := Go.Ground.phase }, { on := 1, ground := Go.Ground.phase }, { on := 2, ground := Go.Ground.phase }, { on := 3, ground := Go.Ground.phase }, { on := 4, ground := Go.Ground.phase }, { on := 5, ground := Go.Ground.phase }, { on := 6, ground := Go.Ground.phase }, { on := 7, ground := Go.Ground.phase }, { on := 8, ground := Go.Ground.phase }, { on := 9, ground := Go.Ground.phase }, { on := 10, ground := Go.Ground.phase }, { on := 11, ground := Go.Ground.phase }, { on := 12, ground := Go.Ground.phase }, { on := 13, ground := Go.Ground.phase }, { on := 14, ground := Go.Ground.phase }, { on := 15, ground := Go.Ground.phase }, { on := 16, ground := Go.Ground.phase }], guard := none }) rfl (fun K hK => ?_) AllReadyH.nil
            refine st_store (p := 14) (q := 77) (b := b14) (u := zW) (v := qd) rfl rfl rfl rfl P14.out.1 rfl (fun wn hrow hgr => ?_)
            replace P13 := Lib.hid (And.intro (keep_other P13.out.1 hgr (by have := D.out; omega)) P13.out.2)
            have HS2 := below_grown1 HS hgr P14.out.2
            replace P14 := Lib.hid (And.intro hrow P14.out.2)
            clear HS hrow hgr
            refine hK.out _ _ HS2 (fun HS => ?_)
            clear HS2 hK
            try simp only [Act.put, List.setIfInBounds_toArray, List.set_cons_zero, List.set_cons_succ]
            refine wpAnyH_done (by kernel_rfl) ?_ _
            refine NoPanic.normal ?_
            go_wp2
            go_meet
            case rel => exact ⟨b13, b14, rfl, rfl, P13.out.1, P14.out.1, HS⟩
          refine AllReadyH.cons (o := { dst := some 14, op := Go.Op.alloc 26, type := 0, pos := "law.go:83", after := #[], guard := none }) rfl (fun K hK => ?_) AllReadyH.nil
          refine st_alloc rfl rfl (fun b14 wn hge hrow hbel => ?_)
          have D : Hid (b13 ≠ b14) := Lib.hid (by have := (Array.getElem?_eq_some_iff.1 P13.out.1).1; omega)
          replace P13 := Lib.hid (And.intro (hp_on' P13.out.1 hbel) P13.out.2)
          have P14 := Lib.hid (And.intro hrow (Nat.le_trans HS.size hge))
          clear hrow hge
          have HS2 := HS.trans (hbel.mono HS.size)
          clear HS hbel
          refine hK.out _ _ HS2 (fun HS => ?_)
          clear HS2 hK
          try simp only [Act.put, List.setIfInBounds_toArray, List.set_cons_zero, List.set_cons_succ]
          refine wpAnyH_ready (rs := [7]) (by kernel_rfl) (by simp) ?_
          refine AllReadyH.cons (o := { dst := some 71, op := Go.Op.buildSlice 22 1 #[(0, Go.Operand.tmp 70)], type := 22, pos := "law.go:83", after := #[{ on := 6, ground := Go.Ground.data }], guard := none }) rfl (fun K hK => ?_) AllReadyH.nil
          refine st_news (y := 70) rfl rfl rfl (fun bn wn hge hrow hbel => ?_)
          replace P13 := Lib.hid (And.intro (hp_on' P13.out.1 hbel) P13.out.2)
          replace P14 := Lib.hid (And.intro (hp_on' P14.out.1 hbel) P14.out.2)
          have N := Lib.hid (And.intro hrow (Nat.le_trans HS.size hge))
          clear hrow hge
          have HS2 := HS.trans (hbel.mono HS.size)
          clear HS hbel
          refine hK.out _ _ HS2 (fun HS => ?_)
          clear HS2 hK
          try simp only [Act.put, List.setIfInBounds_toArray, List.set_cons_zero, List.set_cons_succ]
          refine wpAnyH_ready (rs := [8]) (by kernel_rfl) (by simp) ?_
          refine AllReadyH.cons (o := { dst := some 72, op := Go.Op.call { callee := Go.Callee.builtin Go.Builtin.append, args := #[Go.Operand.tmp 69, Go.Operand.tmp 71], argTypes := #[22, 22] }, type := 22, pos := "law.go:83", after := #[{ on := 5, ground := Go.Ground.data }, { on := 7, ground := Go.Ground.data }], guard := none }) rfl (fun K hK => ?_) AllReadyH.nil
          refine step_append_grows rfl (.tmp 69) (.tmp 71) 22 rfl 46 i0 _ 4 32 Try.underlying22 HI.out.1 HI.out.2.1 HI.out.2.2.1 HI.out.2.2.2 rfl (by decide) A l.length l.length (tCells l) rfl (fun e => ⟨(HA.out e).1, (HA.out e).1⟩) (tCells_len l) (trow_cells (L6.out.ra.below HS)) ⟨bn, 0, none⟩ 1 1 [.int .u64 t0, .int .u64 t1, .int .i64 t2, .int .i64 t3] rfl rfl (World.news_of_block N.out.1) (by simp [Value.oneCell']) (by omega) (by unfold maxLen; omega) (by omega) ?_
          intro v7 wn hown hgr
          obtain ⟨A7, c7, rfl, hrr⟩ := trow_snoc (t := ⟨t0, t1, t2, t3⟩) hown
          have hbel := below_grown0 hgr
          clear N hown hgr
          replace P13 := Lib.hid (And.intro (hp_on' P13.out.1 hbel) P13.out.2)
          replace P14 := Lib.hid (And.intro (hp_on' P14.out.1 hbel) P14.out.2)
          have RR := Lib.hid hrr
          clear hrr
          have HS2 := HS.trans (hbel.mono HS.size)
          clear HS hbel
          refine hK.out _ _ HS2 (fun HS => ?_)
          clear HS2 hK
          try simp only [Act.put, List.setIfInBounds_toArray, List.set_cons_zero, List.set_cons_succ]
          refine wpAnyH_ready (rs := [9]) (by kernel_rfl) (by simp) ?_
          refine AllReadyH.cons (o := { dst := some 73, op := Go.Op.call { callee := Go.Callee.value (Go.Operand.func 7), args := #[Go.Operand.tmp 72], argTypes := #[22] }, type := 26, pos := "law.go:83", after := #[{ on := 8, ground := Go.Ground.data }, { on := 8, ground := Go.Ground.chain }], guard := none }) rfl (fun K hK => ?_) AllReadyH.nil
          go_simp
          refine (cD.out _ A7 c7 RR.out).mono ?_; rintro e wn ⟨rfl, hbel⟩
          clear RR
          replace P13 := Lib.hid (And.intro (hp_on' P13.out.1 hbel) P13.out.2)
          replace P14 := Lib.hid (And.intro (hp_on' P14.out.1 hbel) P14.out.2)
          have HS2 := HS.trans (hbel.mono HS.size)
          clear HS hbel
          refine hK.out _ _ HS2 (fun HS => ?_)
          clear HS2 hK
          try simp only [Act.put, List.setIfInBounds_toArray, List.set_cons_zero, List.set_cons_succ]
          refine wpAnyH_ready (rs := [13]) (by kernel_rfl) (by simp) ?_
          refine AllReadyH.cons (o := { dst := some 77, op := Go.Op.call { callee := Go.Callee.value (Go.Operand.func 16), args := #[Go.Operand.tmp 74, Go.Operand.tmp 75, Go.Operand.tmp 76], argTypes := #[26, 2, 46] }, type := 26, pos := "law.go:83", after := #[{ on := 10, ground := Go.Ground.data }, { on := 11, ground := Go.Ground.data }, { on := 12, ground := Go.Ground.data }, { on := 9, ground := Go.Ground.chain }], guard := none }) rfl (fun K hK => ?_) AllReadyH.nil
          go_simp
          refine (cT.out _).mono ?_; rintro e wn ⟨rfl, hbel⟩
          replace P13 := Lib.hid (And.intro (hp_on' P13.out.1 hbel) P13.out.2)
          replace P14 := Lib.hid (And.intro (hp_on' P14.out.1 hbel) P14.out.2)
          have HS2 := HS.trans (hbel.mono HS.size)
          clear HS hbel
          refine hK.out _ _ HS2 (fun HS => ?_)
          clear HS2 hK
          try simp only [Act.put, List.setIfInBounds_toArray, List.set_cons_zero, List.set_cons_succ]
          refine wpAnyH_ready (rs := [16]) (by kernel_rfl) (by simp) ?_
          refine AllReadyH.cons (o := { dst := none, op := Go.Op.store 26 (Go.Operand.tmp 13) (Go.Operand.tmp 73), type := 0, pos := "law.go:83", after := #[{ on := 14, ground := Go.Ground.data }, { on := 9, ground := Go.Ground.data }, { on := 13, ground := Go.Ground.chain }, { on := 0, ground := Go.Ground.phase }, { on := 1, ground := Go.Ground.phase }, { on := 2, ground := Go.Ground.phase }, { on := 3, ground := Go.Ground.phase }, { on := 4, ground := Go.Ground.phase }, { on := 5, ground := Go.Ground.phase }, { on := 6, ground := Go.Ground.phase }, { on := 7, ground := Go.Ground.phase }, { on := 8, ground := Go.Ground.phase }, { on := 9, ground := Go.Ground.phase }, { on := 10, ground := Go.Ground.textOnly Go.Departure.lateStores }, { on := 11, ground := Go.Ground.textOnly Go.Departure.lateStores }, { on := 12, ground := Go.Ground.textOnly Go.Departure.lateStores }, { on := 13, ground := Go.Ground.textOnly Go.Departure.lateStoresUnsure }, { on := 14, ground := Go.Ground.phase }, { on := 15, ground := Go.Ground.phase }], guard := none }) rfl (fun K hK => ?_) AllReadyH.nil
          refine st_store (p := 13) (q := 73) (b := b13) (u := zW) (v := qd) rfl rfl rfl rfl P13.out.1 rfl (fun wn hrow hgr => ?_)
          replace P14 := Lib.hid (And.intro (keep_other P14.out.1 hgr (by have := D.out; omega)) P14.out.2)
          have HS2 := below_grown1 HS hgr P13.out.2
          replace P13 := Lib.hid (And.intro hrow P13.out.2)
          clear HS hrow hgr
          refine hK.out _ _ HS2 (fun HS => ?_)
          clear HS2 hK
          try simp only [Act.put, List.setIfInBounds_toArray, List.set_cons_zero, List.set_cons_succ]
          refine wpAnyH_ready (rs := [17]) (by kernel_rfl) (by simp) ?_
          refine AllReadyH.cons (o := { dst := none, op := Go.Op.store 26 (Go.Operand.tmp 14) (Go.Operand.tmp 77), type := 0, pos := "law.go:83", after := #[{ on := 15, ground := Go.Ground.data }, { on := 13, ground := Go.Ground.data }, { on := 16, ground := Go.Ground.chain }, { on := 0, ground := Go.Ground.phase }, { on := 1, ground := Go.Ground.phase }, { on := 2, ground := Go.Ground.phase }, { on := 3, ground := Go.Ground.phase }, { on := 4, ground := Go.Ground.phase }, { on := 5, ground := Go.Ground.phase }, { on := 6, ground := Go.Ground.phase }, { on := 7, ground := Go.Ground.phase }, { on := 8, ground := Go.Ground.phase }, { on := 9, ground := Go.Ground.phase }, { on := 10, ground := Go.Ground.phase }, { on := 11, ground := Go.Ground.phase }, { on := 12, ground := Go.Ground.phase }, { on := 13, ground := Go.Ground.phase }, { on := 14, ground := Go.Ground.phase }, { on := 15, ground := Go.Ground.phase }, { on := 16, ground := Go.Ground.phase }], guard := none }) rfl (fun K hK => ?_) AllReadyH.nil
          refine st_store (p := 14) (q := 77) (b := b14) (u := zW) (v := qd) rfl rfl rfl rfl P14.out.1 rfl (fun wn hrow hgr => ?_)
          replace P13 := Lib.hid (And.intro (keep_other P13.out.1 hgr (by have := D.out; omega)) P13.out.2)
          have HS2 := below_grown1 HS hgr P14.out.2
          replace P14 := Lib.hid (And.intro hrow P14.out.2)
          clear HS hrow hgr
          refine hK.out _ _ HS2 (fun HS => ?_)
          clear HS2 hK
          try simp only [Act.put, List.setIfInBounds_toArray, List.set_cons_zero, List.set_cons_succ]
          refine wpAnyH_done (by kernel_rfl) ?_ _
          refine NoPanic.normal ?_
          go_wp2
          go_meet
          case rel => exact ⟨b13, b14, rfl, rfl, P13.out.1, P14.out.1, HS⟩
        refine AllReadyH.cons (o := { dst := some 14, op := Go.Op.alloc 26, type := 0, pos := "law.go:83", after := #[], guard := none }) rfl (fun K hK => ?_) AllReadyH.nil
        refine st_alloc rfl rfl (fun b14 wn hge hrow hbel => ?_)
        have P14 := Lib.hid (And.intro hrow (Nat.le_trans HS.size hge))
        clear hrow hge
        have HS2 := HS.trans (hbel.mono HS.size)
        clear HS hbel
        refine hK.out _ _ HS2 (fun HS => ?_)
        clear HS2 hK
        try simp only [Act.put, List.setIfInBounds_toArray, List.set_cons_zero, List.set_cons_succ]
        refine wpAnyH_ready (rs := [7, 14]) (by kernel_rfl) (by simp) ?_
        refine AllReadyH.cons (o := { dst := some 71, op := Go.Op.buildSlice 22 1 #[(0, Go.Operand.tmp 70)], type := 22, pos := "law.go:83", after := #[{ on := 6, ground := Go.Ground.data }], guard := none }) rfl (fun K hK => ?_) ?_
        · skip
          refine st_news (y := 70) rfl rfl rfl (fun bn wn hge hrow hbel => ?_)
          replace P14 := Lib.hid (And.intro (hp_on' P14.out.1 hbel) P14.out.2)
          have N := Lib.hid (And.intro hrow (Nat.le_trans HS.size hge))
          clear hrow hge
          have HS2 := HS.trans (hbel.mono HS.size)
          clear HS hbel
          refine hK.out _ _ HS2 (fun HS => ?_)
          clear HS2 hK
          try simp only [Act.put, List.setIfInBounds_toArray, List.set_cons_zero, List.set_cons_succ]
          refine wpAnyH_ready (rs := [8, 14]) (by kernel_rfl) (by simp) ?_
          refine AllReadyH.cons (o := { dst := some 72, op := Go.Op.call { callee := Go.Callee.builtin Go.Builtin.append, args := #[Go.Operand.tmp 69, Go.Operand.tmp 71], argTypes := #[22, 22] }, type := 22, pos := "law.go:83", after := #[{ on := 5, ground := Go.Ground.data }, { on := 7, ground := Go.Ground.data }], guard := none }) rfl (fun K hK => ?_) ?_
          · skip
            refine step_append_grows rfl (.tmp 69) (.tmp 71) 22 rfl 46 i0 _ 4 32 Try.underlying22 HI.out.1 HI.out.2.1 HI.out.2.2.1 HI.out.2.2.2 rfl (by decide) A l.length l.length (tCells l) rfl (fun e => ⟨(HA.out e).1, (HA.out e).1⟩) (tCells_len l) (trow_cells (L6.out.ra.below HS)) ⟨bn, 0, none⟩ 1 1 [.int .u64 t0, .int .u64 t1, .int .i64 t2, .int .i64 t3] rfl rfl (World.news_of_block N.out.1) (by simp [Value.oneCell']) (by omega) (by unfold maxLen; omega) (by omega) ?_
            intro v7 wn hown hgr
            obtain ⟨A7, c7, rfl, hrr⟩ := trow_snoc (t := ⟨t0, t1, t2, t3⟩) hown
            have hbel := below_grown0 hgr
            clear N hown hgr
            replace P14 := Lib.hid (And.intro (hp_on' P14.out.1 hbel) P14.out.2)
            have RR := Lib.hid hrr
            clear hrr
            have HS2 := HS.trans (hbel.mono HS.size)
            clear HS hbel
            refine hK.out _ _ HS2 (fun HS => ?_)
            clear HS2 hK
            try simp only [Act.put, List.setIfInBounds_toArray, List.set_cons_zero, List.set_cons_succ]
            refine wpAnyH_ready (rs := [9, 14]) (by kernel_rfl) (by simp) ?_
            refine AllReadyH.cons (o := { dst := some 73, op := Go.Op.call { callee := Go.Callee.value (Go.Operand.func 7), args := #[Go.Operand.tmp 72], argTypes := #[22] }, type := 26, pos := "law.go:83", after := #[{ on := 8, ground := Go.Ground.data }, { on := 8, ground := Go.Ground.chain }], guard := none }) rfl (fun K hK => ?_) ?_
            · skip
              go_simp
              refine (cD.out _ A7 c7 RR.out).mono ?_; rintro e wn ⟨rfl, hbel⟩
              clear RR
              replace P14 := Lib.hid (And.intro (hp_on' P14.out.1 hbel) P14.out.2)
              have HS2 := HS.trans (hbel.mono HS.size)
              clear HS hbel
              refine hK.out _ _ HS2 (fun HS => ?_)
              clear HS2 hK
              try simp only [Act.put, List.setIfInBounds_toArray, List.set_cons_zero, List.set_cons_succ]
              refine wpAnyH_ready (rs := [13, 14]) (by kernel_rfl) (by simp) ?_
              refine AllReadyH.cons (o := { dst := some 77, op := Go.Op.call { callee := Go.Callee.value (Go.Operand.func 16), args := #[Go.Operand.tmp 74, Go.Operand.tmp 75, Go.Operand.tmp 76], argTypes := #[26, 2, 46] }, type := 26, pos := "law.go:83", after := #[{ on := 10, ground := Go.Ground.data }, { on := 11, ground := Go.Ground.data }, { on := 12, ground := Go.Ground.data }, { on := 9, ground := Go.Ground.chain }], guard := none }) rfl (fun K hK => ?_) ?_
              · skip
                go_simp
                refine (cT.out _).mono ?_; rintro e wn ⟨rfl, hbel⟩
                replace P14 := Lib.hid (And.intro (hp_on' P14.out.1 hbel) P14.out.2)
                have HS2 := HS.trans (hbel.mono HS.size)
                clear HS hbel
                refine hK.out _ _ HS2 (fun HS => ?_)
                clear HS2 hK
                try simp only [Act.put, List.setIfInBounds_toArray, List.set_cons_zero, List.set_cons_succ]
                refine wpAnyH_ready (rs := [14]) (by kernel_rfl) (by simp) ?_
                refine AllReadyH.cons (o := { dst := some 13, op := Go.Op.alloc 26, type := 0, pos := "law.go:83", after := #[], guard := none }) rfl (fun K hK => ?_) AllReadyH.nil
                refine st_alloc rfl rfl (fun b13 wn hge hrow hbel => ?_)
                have D : Hid (b13 ≠ b14) := Lib.hid (by have := (Array.getElem?_eq_some_iff.1 P14.out.1).1; omega)
                replace P14 := Lib.hid (And.intro (hp_on' P14.out.1 hbel) P14.out.2)
                have P13 := Lib.hid (And.intro hrow (Nat.le_trans HS.size hge))
                clear hrow hge
                have HS2 := HS.trans (hbel.mono HS.size)
                clear HS hbel
                refine hK.out _ _ HS2 (fun HS => ?_)
                clear HS2 hK
                try simp only [Act.put, List.setIfInBounds_toArray, List.set_cons_zero, List.set_cons_succ]
                refine wpAnyH_ready (rs := [16]) (by kernel_rfl) (by simp) ?_
                refine AllReadyH.cons (o := { dst := none, op := Go.Op.store 26 (Go.Operand.tmp 13) (Go.Operand.tmp 73), type := 0, pos := "law.go:83", after := #[{ on := 14, ground := Go.Ground.data }, { on := 9, ground := Go.Ground.data }, { on := 13, ground := Go.Ground.chain }, { on := 0, ground := Go.Ground.phase }, { on := 1, ground := Go.Ground.phase }, { on := 2, ground := Go.Ground.phase }, { on := 3, ground := Go.Ground.phase }, { on := 4, ground := Go.Ground.phase }, { on := 5, ground := Go.Ground.phase }, { on := 6, ground := Go.Ground.phase }, { on := 7, ground := Go.Ground.phase }, { on := 8, ground := Go.Ground.phase }, { on := 9, ground := Go.Ground.phase }, { on := 10, ground := Go.Ground.textOnly Go.Departure.lateStores }, { on := 11, ground := Go.Ground.textOnly Go.Departure.lateStores }, { on := 12, ground := Go.Ground.textOnly Go.Departure.lateStores }, { on := 13, ground := Go.Ground.textOnly Go.Departure.lateStoresUnsure }, { on := 14, ground := Go.Ground.phase }, { on := 15, ground := Go.Ground.phase }], guard := none }) rfl (fun K hK => ?_) AllReadyH.nil
                refine st_store (p := 13) (q := 73) (b := b13) (u := zW) (v := qd) rfl rfl rfl rfl P13.out.1 rfl (fun wn hrow hgr => ?_)
                replace P14 := Lib.hid (And.intro (keep_other P14.out.1 hgr (by have := D.out; omega)) P14.out.2)
                have HS2 := below_grown1 HS hgr P13.out.2
                replace P13 := Lib.hid (And.intro hrow P13.out.2)
                clear HS hrow hgr
                refine hK.out _ _ HS2 (fun HS => ?_)
                clear HS2 hK
                try simp only [Act.put, List.setIfInBounds_toArray, List.set_cons_zero, List.set_cons_succ]
                refine wpAnyH_ready (rs := [17]) (by kernel_rfl) (by simp) ?_
                refine AllReadyH.cons (o := { dst := none, op := Go.Op.store 26 (Go.Operand.tmp 14) (Go.Operand.tmp 77), type := 0, pos := "law.go:83", after := #[{ on := 15, ground := Go.Ground.data }, { on := 13, ground := Go.Ground.data }, { on := 16, ground := Go.Ground.chain }, { on := 0, ground := Go.Ground.phase }, { on := 1, ground := Go.Ground.phase }, { on := 2, ground := Go.Ground.phase }, { on := 3, ground := Go.Ground.phase }, { on := 4, ground := Go.Ground.phase }, { on := 5, ground := Go.Ground.phase }, { on := 6, ground := Go.Ground.phase }, { on := 7, ground := Go.Ground.phase }, { on := 8, ground := Go.Ground.phase }, { on := 9, ground := Go.Ground.phase }, { on := 10, ground := Go.Ground.phase }, { on := 11, ground := Go.Ground.phase }, { on := 12, ground := Go.Ground.phase }, { on := 13, ground := Go.Ground.phase }, { on := 14, ground := Go.Ground.phase }, { on := 15, ground := Go.Ground.phase }, { on := 16, ground := Go.Ground.phase }], guard := none }) rfl (fun K hK => ?_) AllReadyH.nil
                refine st_store (p := 14) (q := 77) (b := b14) (u := zW) (v := qd) rfl rfl rfl rfl P14.out.1 rfl (fun wn hrow hgr => ?_)
                replace P13 := Lib.hid (And.intro (keep_other P13.out.1 hgr (by have := D.out; omega)) P13.out.2)
                have HS2 := below_grown1 HS hgr P14.out.2
                replace P14 := Lib.hid (And.intro hrow P14.out.2)
                clear HS hrow hgr
                refine hK.out _ _ HS2 (fun HS => ?_)
                clear HS2 hK
                try simp only [Act.put, List.setIfInBounds_toArray, List.set_cons_zero, List.set_cons_succ]
                refine wpAnyH_done (by kernel_rfl) ?_ _
                refine NoPanic.normal ?_
                go_wp2
                go_meet
                case rel => exact ⟨b13, b14, rfl, rfl, P13.out.1, P14.out.1, HS⟩
              refine AllReadyH.cons (o := { dst := some 13, op := Go.Op.alloc 26, type := 0, pos := "law.go:83", after := #[], guard := none }) rfl (fun K hK => ?_) AllReadyH.nil
              refine st_alloc rfl rfl (fun b13 wn hge hrow hbel => ?_)
              have D : Hid (b13 ≠ b14) := Lib.hid (by have := (Array.getElem?_eq_some_iff.1 P14.out.1).1; omega)
              replace P14 := Lib.hid (And.intro (hp_on' P14.out.1 hbel) P14.out.2)
              have P13 := Lib.hid (And.intro hrow (Nat.le_trans HS.size hge))
              clear hrow hge
              have HS2 := HS.trans (hbel.mono HS.size)
              clear HS hbel
              refine hK.out _ _ HS2 (fun HS => ?_)
              clear HS2 hK
              try simp only [Act.put, List.setIfInBounds_toArray, List.set_cons_zero, List.set_cons_succ]
              refine wpAnyH_ready (rs := [13]) (by kernel_rfl) (by simp) ?_
              refine AllReadyH.cons (o := { dst := some 77, op := Go.Op.call { callee := Go.Callee.value (Go.Operand.func 16), args := #[Go.Operand.tmp 74, Go.Operand.tmp 75, Go.Operand.tmp 76], argTypes := #[26, 2, 46] }, type := 26, pos := "law.go:83", after := #[{ on := 10, ground := Go.Ground.data }, { on := 11, ground := Go.Ground.data }, { on := 12, ground := Go.Ground.data }, { on := 9, ground := Go.Ground.chain }], guard := none }) rfl (fun K hK => ?_) AllReadyH.nil
              go_simp
              refine (cT.out _).mono ?_; rintro e wn ⟨rfl, hbel⟩
              replace P13 := Lib.hid (And.intro (hp_on' P13.out.1 hbel) P13.out.2)
              replace P14 := Lib.hid (And.intro (hp_on' P14.out.1 hbel) P14.out.2)
              have HS2 := HS.trans (hbel.mono HS.size)
              clear HS hbel
              refine hK.out _ _ HS2 (fun HS => ?_)
              clear HS2 hK
              try simp only [Act.put, List.setIfInBounds_toArray, List.set_cons_zero, List.set_cons_succ]
              refine wpAnyH_ready (rs := [16]) (by kernel_rfl) (by simp) ?_
              refine AllReadyH.cons (o := { dst := none, op := Go.Op.store 26 (Go.Operand.tmp 13) (Go.Operand.tmp 73), type := 0, pos := "law.go:83", after := #[{ on := 14, ground := Go.Ground.data }, { on := 9, ground := Go.Ground.data }, { on := 13, ground := Go.Ground.chain }, { on := 0, ground := Go.Ground.phase }, { on := 1, ground := Go.Ground.phase }, { on := 2, ground := Go.Ground.phase }, { on := 3, ground := Go.Ground.phase }, { on := 4, ground := Go.Ground.phase }, { on := 5, ground := Go.Ground.phase }, { on := 6, ground := Go.Ground.phase }, { on := 7, ground := Go.Ground.phase }, { on := 8, ground := Go.Ground.phase }, { on := 9, ground := Go.Ground.phase }, { on := 10, ground := Go.Ground.textOnly Go.Departure.lateStores }, { on := 11, ground := Go.Ground.textOnly Go.Departure.lateStores }, { on := 12, ground := Go.Ground.textOnly Go.Departure.lateStores }, { on := 13, ground := Go.Ground.textOnly Go.Departure.lateStoresUnsure }, { on := 14, ground := Go.Ground.phase }, { on := 15, ground := Go.Ground.phase }], guard := none }) rfl (fun K hK => ?_) AllReadyH.nil
              refine st_store (p := 13) (q := 73) (b := b13) (u := zW) (v := qd) rfl rfl rfl rfl P13.out.1 rfl (fun wn hrow hgr => ?_)
              replace P14 := Lib.hid (And.intro (keep_other P14.out.1 hgr (by have := D.out; omega)) P14.out.2)
              have HS2 := below_grown1 HS hgr P13.out.2
              replace P13 := Lib.hid (And.intro hrow P13.out.2)
              clear HS hrow hgr
              refine hK.out _ _ HS2 (fun HS => ?_)
              clear HS2 hK
              try simp only [Act.put, List.setIfInBounds_toArray, List.set_cons_zero, List.set_cons_succ]
              refine wpAnyH_ready (rs := [17]) (by kernel_rfl) (by simp) ?_
              refine AllReadyH.cons (o := { dst := none, op := Go.Op.store 26 (Go.Operand.tmp 14) (Go.Operand.tmp 77), type := 0, pos := "law.go:83", after := #[{ on := 15, ground := Go.Ground.data }, { on := 13, ground := Go.Ground.data }, { on := 16, ground := Go.Ground.chain }, { on := 0, ground := Go.Ground.phase }, { on := 1, ground := Go.Ground.phase }, { on := 2, ground := Go.Ground.phase }, { on := 3, ground := Go.Ground.phase }, { on := 4, ground := Go.Ground.phase }, { on := 5, ground := Go.Ground.phase }, { on := 6, ground := Go.Ground.phase }, { on := 7, ground := Go.Ground.phase }, { on := 8, ground := Go.Ground.phase }, { on := 9, ground := Go.Ground.phase }, { on := 10, ground := Go.Ground.phase }, { on := 11, ground := Go.Ground.phase }, { on := 12, ground := Go.Ground.phase }, { on := 13, ground := Go.Ground.phase }, { on := 14, ground := Go.Ground.phase }, { on := 15, ground := Go.Ground.phase }, { on := 16, ground := Go.Ground.phase }], guard := none }) rfl (fun K hK => ?_) AllReadyH.nil
              refine st_store (p := 14) (q := 77) (b := b14) (u := zW) (v := qd) rfl rfl rfl rfl P14.out.1 rfl (fun wn hrow hgr => ?_)
              replace P13 := Lib.hid (And.intro (keep_other P13.out.1 hgr (by have := D.out; omega)) P13.out.2)
              have HS2 := below_grown1 HS hgr P14.out.2
              replace P14 := Lib.hid (And.intro hrow P14.out.2)
              clear HS hrow hgr
              refine hK.out _ _ HS2 (fun HS => ?_)
              clear HS2 hK
              try simp only [Act.put, List.setIfInBounds_toArray, List.set_cons_zero, List.set_cons_succ]
              refine wpAnyH_done (by kernel_rfl) ?_ _
              refine NoPanic.normal ?_
              go_wp2
              go_meet
              case rel => exact ⟨b13, b14, rfl, rfl, P13.out.1, P14.out.1, HS⟩
            refine AllReadyH.cons (o := { dst := some 13, op := Go.Op.alloc 26, type := 0, pos := "law.go:83", after := #[], guard := none }) rfl (fun K hK => ?_) AllReadyH.nil
            refine st_alloc rfl rfl (fun b13 wn hge hrow hbel => ?_)
            have D : Hid (b13 ≠ b14) := Lib.hid (by have := (Array.getElem?_eq_some_iff.1 P14.out.1).1; omega)
            replace RR := Lib.hid (RR.out.below hbel)
            replace P14 := Lib.hid (And.intro (hp_on' P14.out.1 hbel) P14.out.2)
            have P13 := Lib.hid (And.intro hrow (Nat.le_trans HS.size hge))
            clear hrow hge
            have HS2 := HS.trans (hbel.mono HS.size)
            clear HS hbel
            refine hK.out _ _ HS2 (fun HS => ?_)
            clear HS2 hK
            try simp only [Act.put, List.setIfInBounds_toArray, List.set_cons_zero, List.set_cons_succ]
            refine wpAnyH_ready (rs := [9]) (by kernel_rfl) (by simp) ?_
            refine AllReadyH.cons (o := { dst := some 73, op := Go.Op.call { callee := Go.Callee.value (Go.Operand.func 7), args := #[Go.Operand.tmp 72], argTypes := #[22] }, type := 26, pos := "law.go:83", after := #[{ on := 8, ground := Go.Ground.data }, { on := 8, ground := Go.Ground.chain }], guard := none }) rfl (fun K hK => ?_) AllReadyH.nil
            go_simp
            refine (cD.out _ A7 c7 RR.out).mono ?_; rintro e wn ⟨rfl, hbel⟩
            clear RR
            replace P13 := Lib.hid (And.intro (hp_on' P13.out.1 hbel) P13.out.2)
            replace P14 := Lib.hid (And.intro (hp_on' P14.out.1 hbel) P14.out.2)
            have HS2 := HS.trans (hbel.mono HS.size)
            clear HS hbel
            refine hK.out _ _ HS2 (fun HS => ?_)
            clear HS2 hK
            try simp only [Act.put, List.setIfInBounds_toArray, List.set_cons_zero, List.set_cons_succ]
            refine wpAnyH_ready (rs := [13]) (by kernel_rfl) (by simp) ?_
            refine AllReadyH.cons (o := { dst := some 77, op := Go.Op.call { callee := Go.Callee.value (Go.Operand.func 16), args := #[Go.Operand.tmp 74, Go.Operand.tmp 75, Go.Operand.tmp 76], argTypes := #[26, 2, 46] }, type := 26, pos := "law.go:83", after := #[{ on := 10, ground := Go.Ground.data }, { on := 11, ground := Go.Ground.data }, { on := 12, ground := Go.Ground.data }, { on := 9, ground := Go.Ground.chain }], guard := none }) rfl (fun K hK => ?_) AllReadyH.nil
            go_simp
            refine (cT.out _).mono ?_; rintro e wn ⟨rfl, hbel⟩
            replace P13 := Lib.hid (And.intro (hp_on' P13.out.1 hbel) P13.out.2)
            replace P14 := Lib.hid (And.intro (hp_on' P14.out.1 hbel) P14.out.2)
            have HS2 := HS.trans (hbel.mono HS.size)
            clear HS hbel
            refine hK.out _ _ HS2 (fun HS => ?_)
            clear HS2 hK
            try simp only [Act.put, List.setIfInBounds_toArray, List.set_cons_zero, List.set_cons_succ]
            refine wpAnyH_ready (rs := [16]) (by kernel_rfl) (by simp) ?_
            refine AllReadyH.cons (o := { dst := none, op := Go.Op.store 26 (Go.Operand.tmp 13) (Go.Operand.tmp 73), type := 0, pos := "law.go:83", after := #[{ on := 14, ground := Go.Ground.data }, { on := 9, ground := Go.Ground.data }, { on := 13, ground := Go.Ground.chain }, { on := 0, ground := Go.Ground.phase }, { on := 1, ground := Go.Ground.phase }, { on := 2, ground := Go.Ground.phase }, { on := 3, ground := Go.Ground.phase }, { on := 4, ground := Go.Ground.phase }, { on := 5, ground := Go.Ground.phase }, { on := 6, ground := Go.Ground.phase }, { on := 7, ground := Go.Ground.phase }, { on := 8, ground := Go.Ground.phase }, { on := 9, ground := Go.Ground.phase }, { on := 10, ground := Go.Ground.textOnly Go.Departure.lateStores }, { on := 11, ground := Go.Ground.textOnly Go.Departure.lateStores }, { on := 12, ground := Go.Ground.textOnly Go.Departure.lateStores }, { on := 13, ground := Go.Ground.textOnly Go.Departure.lateStoresUnsure }, { on := 14, ground := Go.Ground.phase }, { on := 15, ground := Go.Ground.phase }], guard := none }) rfl (fun K hK => ?_) AllReadyH.nil
            refine st_store (p := 13) (q := 73) (b := b13) (u := zW) (v := qd) rfl rfl rfl rfl P13.out.1 rfl (fun wn hrow hgr => ?_)
            replace P14 := Lib.hid (And.intro (keep_other P14.out.1 hgr (by have := D.out; omega)) P14.out.2)
            have HS2 := below_grown1 HS hgr P13.out.2
            replace P13 := Lib.hid (And.intro hrow P13.out.2)
            clear HS hrow hgr
            refine hK.out _ _ HS2 (fun HS => ?_)
            clear HS2 hK
            try simp only [Act.put, List.setIfInBounds_toArray, List.set_cons_zero, List.set_cons_succ]
            refine wpAnyH_ready (rs := [17]) (by kernel_rfl) (by simp) ?_
            refine AllReadyH.cons (o := { dst := none, op := Go.Op.store 26 (Go.Operand.tmp 14) (Go.Operand.tmp 77), type := 0, pos := "law.go:83", after := #[{ on := 15, ground := Go.Ground.data }, { on := 13, ground := Go.Ground.data }, { on := 16, ground := Go.Ground.chain }, { on := 0, ground := Go.Ground.phase }, { on := 1, ground := Go.Ground.phase }, { on := 2, ground := Go.Ground.phase }, { on := 3, ground := Go.Ground.phase }, { on := 4, ground := Go.Ground.phase }, { on := 5, ground := Go.Ground.phase }, { on := 6, ground := Go.Ground.phase }, { on := 7, ground := Go.Ground.phase }, { on := 8, ground := Go.Ground.phase }, { on := 9, ground := Go.Ground.phase }, { on := 10, ground := Go.Ground.phase }, { on := 11, ground := Go.Ground.phase }, { on := 12, ground := Go.Ground.phase }, { on := 13, ground := Go.Ground.phase }, { on := 14, ground := Go.Ground.phase }, { on := 15, ground := Go.Ground.phase }, { on := 16, ground := Go.Ground.phase }], guard := none }) rfl (fun K hK => ?_) AllReadyH.nil
            refine st_store (p := 14) (q := 77) (b := b14) (u := zW) (v := qd) rfl rfl rfl rfl P14.out.1 rfl (fun wn hrow hgr => ?_)
            replace P13 := Lib.hid (And.intro (keep_other P13.out.1 hgr (by have := D.out; omega)) P13.out.2)
            have HS2 := below_grown1 HS hgr P14.out.2
            replace P14 := Lib.hid (And.intro hrow P14.out.2)
            clear HS hrow hgr
            refine hK.out _ _ HS2 (fun HS => ?_)
            clear HS2 hK
            try simp only [Act.put, List.setIfInBounds_toArray, List.set_cons_zero, List.set_cons_succ]
            refine wpAnyH_done (by kernel_rfl) ?_ _
            refine NoPanic.normal ?_
            go_wp2
            go_meet
            case rel => exact ⟨b13, b14, rfl, rfl, P13.out.1, P14.out.1, HS⟩
          refine AllReadyH.cons (o := { dst := some 13, op := Go.Op.alloc 26, type := 0, pos := "law.go:83", after := #[], guard := none }) rfl (fun K hK => ?_) AllReadyH.nil
          refine st_alloc rfl rfl (fun b13 wn hge hrow hbel => ?_)
          have D : Hid (b13 ≠ b14) := Lib.hid (by have := (Array.getElem?_eq_some_iff.1 P14.out.1).1; omega)
          replace N := Lib.hid (And.intro (hp_on' N.out.1 hbel) N.out.2)
          replace P14 := Lib.hid (And.intro (hp_on' P14.out.1 hbel) P14.out.2)
          have P13 := Lib.hid (And.intro hrow (Nat.le_trans HS.size hge))
          clear hrow hge
          have HS2 := HS.trans (hbel.mono HS.size)
          clear HS hbel
          refine hK.out _ _ HS2 (fun HS => ?_)
          clear HS2 hK
          try simp only [Act.put, List.setIfInBounds_toArray, List.set_cons_zero, List.set_cons_succ]
          refine wpAnyH_ready (rs := [8]) (by kernel_rfl) (by simp) ?_
          refine AllReadyH.cons (o := { dst := some 72, op := Go.Op.call { callee := Go.Callee.builtin Go.Builtin.append, args := #[Go.Operand.tmp 69, Go.Operand.tmp 71], argTypes := #[22, 22] }, type := 22, pos := "law.go:83", after := #[{ on := 5, ground := Go.Ground.data }, { on := 7, ground := Go.Ground.data }], guard := none }) rfl (fun K hK => ?_) AllReadyH.nil
          refine step_append_grows rfl (.tmp 69) (.tmp 71) 22 rfl 46 i0 _ 4 32 Try.underlying22 HI.out.1 HI.out.2.1 HI.out.2.2.1 HI.out.2.2.2 rfl (by decide) A l.length l.length (tCells l) rfl (fun e => ⟨(HA.out e).1, (HA.out e).1⟩) (tCells_len l) (trow_cells (L6.out.ra.below HS)) ⟨bn, 0, none⟩ 1 1 [.int .u64 t0, .int .u64 t1, .int .i64 t2, .int .i64 t3] rfl rfl (World.news_of_block N.out.1) (by simp [Value.oneCell']) (by omega) (by unfold maxLen; omega) (by omega) ?_
          intro v7 wn hown hgr
          obtain ⟨A7, c7, rfl, hrr⟩ := trow_snoc (t := ⟨t0, t1, t2, t3⟩) hown
          have hbel := below_grown0 hgr
          clear N hown hgr
          replace P13 := Lib.hid (And.intro (hp_on' P13.out.1 hbel) P13.out.2)
          replace P14 := Lib.hid (And.intro (hp_on' P14.out.1 hbel) P14.out.2)
          have RR := Lib.hid hrr
          clear hrr
          have HS2 := HS.trans (hbel.mono HS.size)
          clear HS hbel
          refine hK.out _ _ HS2 (fun HS => ?_)
          clear HS2 hK
          try simp only [Act.put, List.setIfInBounds_toArray, List.set_cons_zero, List.set_cons_succ]
          refine wpAnyH_ready (rs := [9]) (by kernel_rfl) (by simp) ?_
          refine AllReadyH.cons (o := { dst := some 73, op := Go.Op.call { callee := Go.Callee.value (Go.Operand.func 7), args := #[Go.Operand.tmp 72], argTypes := #[22] }, type := 26, pos := "law.go:83", after := #[{ on := 8, ground := Go.Ground.data }, { on := 8, ground := Go.Ground.chain }], guard := none }) rfl (fun K hK => ?_) AllReadyH.nil
          go_simp
          refine (cD.out _ A7 c7 RR.out).mono ?_; rintro e wn ⟨rfl, hbel⟩
          clear RR
          replace P13 := Lib.hid (And.intro (hp_on' P13.out.1 hbel) P13.out.2)
          replace P14 := Lib.hid (And.intro (hp_on' P14.out.1 hbel) P14.out.2)
          have HS2 := HS.trans (hbel.mono HS.size)
          clear HS hbel
          refine hK.out _ _ HS2 (fun HS => ?_)
          clear HS2 hK
          try simp only [Act.put, List.setIfInBounds_toArray, List.set_cons_zero, List.set_cons_succ]
          refine wpAnyH_ready (rs := [13]) (by kernel_rfl) (by simp) ?_
          refine AllReadyH.cons (o := { dst := some 77, op := Go.Op.call { callee := Go.Callee.value (Go.Operand.func 16), args := #[Go.Operand.tmp 74, Go.Operand.tmp 75, Go.Operand.tmp 76], argTypes := #[26, 2, 46] }, type := 26, pos := "law.go:83", after := #[{ on := 10, ground := Go.Ground.data }, { on := 11, ground := Go.Ground.data }, { on := 12, ground := Go.Ground.data }, { on := 9, ground := Go.Ground.chain }], guard := none }) rfl (fun K hK => ?_) AllReadyH.nil
          go_simp
          refine (cT.out _).mono ?_; rintro e wn ⟨rfl, hbel⟩
          replace P13 := Lib.hid (And.intro (hp_on' P13.out.1 hbel) P13.out.2)
          replace P14 := Lib.hid (And.intro (hp_on' P14.out.1 hbel) P14.out.2)
          have HS2 := HS.trans (hbel.mono HS.size)
          clear HS hbel
          refine hK.out _ _ HS2 (fun HS => ?_)
          clear HS2 hK
          try simp only [Act.put, List.setIfInBounds_toArray, List.set_cons_zero, List.set_cons_succ]
          refine wpAnyH_ready (rs := [16]) (by kernel_rfl) (by simp) ?_
          refine AllReadyH.cons (o := { dst := none, op := Go.Op.store 26 (Go.Operand.tmp 13) (Go.Operand.tmp 73), type := 0, pos := "law.go:83", after := #[{ on := 14, ground := Go.Ground.data }, { on := 9, ground := Go.Ground.data }, { on := 13, ground := Go.Ground.chain }, { on := 0, ground := Go.Ground.phase }, { on := 1, ground := Go.Ground.phase }, { on := 2, ground := Go.Ground.phase }, { on := 3, ground := Go.Ground.phase }, { on := 4, ground := Go.Ground.phase }, { on := 5, ground := Go.Ground.phase }, { on := 6, ground := Go.Ground.phase }, { on := 7, ground := Go.Ground.phase }, { on := 8, ground := Go.Ground.phase }, { on := 9, ground := Go.Ground.phase }, { on := 10, ground := Go.Ground.textOnly Go.Departure.lateStores }, { on := 11, ground := Go.Ground.textOnly Go.Departure.lateStores }, { on := 12, ground := Go.Ground.textOnly Go.Departure.lateStores }, { on := 13, ground := Go.Ground.textOnly Go.Departure.lateStoresUnsure }, { on := 14, ground := Go.Ground.phase }, { on := 15, ground := Go.Ground.phase }], guard := none }) rfl (fun K hK => ?_) AllReadyH.nil
          refine st_store (p := 13) (q := 73) (b := b13) (u := zW) (v := qd) rfl rfl rfl rfl P13.out.1 rfl (fun wn hrow hgr => ?_)
          replace P14 := Lib.hid (And.intro (keep_other P14.out.1 hgr (by have := D.out; omega)) P14.out.2)
          have HS2 := below_grown1 HS hgr P13.out.2
          replace P13 := Lib.hid (And.intro hrow P13.out.2)
          clear HS hrow hgr
          refine hK.out _ _ HS2 (fun HS => ?_)
          clear HS2 hK
          try simp only [Act.put, List.setIfInBounds_toArray, List.set_cons_zero, List.set_cons_succ]
          refine wpAnyH_ready (rs := [17]) (by kernel_rfl) (by simp) ?_
          refine AllReadyH.cons (o := { dst := none, op := Go.Op.store 26 (Go.Operand.tmp 14) (Go.Operand.tmp 77), type := 0, pos := "law.go:83", after := #[{ on := 15, ground := Go.Ground.data }, { on := 13, ground := Go.Ground.data }, { on := 16, ground := Go.Ground.chain }, { on := 0, ground := Go.Ground.phase }, { on := 1, ground := Go.Ground.phase }, { on := 2, ground := Go.Ground.phase }, { on := 3, ground := Go.Ground.phase }, { on := 4, ground := Go.Ground.phase }, { on := 5, ground := Go.Ground.phase }, { on := 6, ground := Go.Ground.phase }, { on := 7, ground := Go.Ground.phase }, { on := 8, ground := Go.Ground.phase }, { on := 9, ground := Go.Ground.phase }, { on := 10, ground := Go.Ground.phase }, { on := 11, ground := Go.Ground.phase }, { on := 12, ground := Go.Ground.phase }, { on := 13, ground := Go.Ground.phase }, { on := 14, ground := Go.Ground.phase }, { on := 15, ground := Go.Ground.phase }, { on := 16, ground := Go.Ground.phase }], guard := none }) rfl (fun K hK => ?_) AllReadyH.nil
          refine st_store (p := 14) (q := 77) (b := b14) (u := zW) (v := qd) rfl rfl rfl rfl P14.out.1 rfl (fun wn hrow hgr => ?_)
          replace P13 := Lib.hid (And.intro (keep_other P13.out.1 hgr (by have := D.out; omega)) P13.out.2)
          have HS2 := below_grown1 HS hgr P14.out.2
          replace P14 := Lib.hid (And.intro hrow P14.out.2)
          clear HS hrow hgr
          refine hK.out _ _ HS2 (fun HS => ?_)
          clear HS2 hK
          try simp only [Act.put, List.setIfInBounds_toArray, List.set_cons_zero, List.set_cons_succ]
          refine wpAnyH_done (by kernel_rfl) ?_ _
          refine NoPanic.normal ?_
          go_wp2
          go_meet
          case rel => exact ⟨b13, b14, rfl, rfl, P13.out.1, P14.out.1, HS⟩
        refine AllReadyH.cons (o := { dst := some 13, op := Go.Op.alloc 26, type := 0, pos := "law.go:83", after := #[], guard := none }) rfl (fun K hK => ?_) AllReadyH.nil
        refine st_alloc rfl rfl (fun b13 wn hge hrow hbel => ?_)
        have D : Hid (b13 ≠ b14) := Lib.hid (by have := (Array.getElem?_eq_some_iff.1 P14.out.1).1; omega)
        replace P14 := Lib.hid (And.intro (hp_on' P14.out.1 hbel) P14.out.2)
        have P13 := Lib.hid (And.intro hrow (Nat.le_trans HS.size hge))
        clear hrow hge
        have HS2 := HS.trans (hbel.mono HS.size)
        clear HS hbel
        refine hK.out _ _ HS2 (fun HS => ?_)
        clear HS2 hK
        try simp only [Act.put, List.setIfInBounds_toArray, List.set_cons_zero, List.set_cons_succ]
        refine wpAnyH_ready (rs := [7]) (by kernel_rfl) (by simp) ?_
        refine AllReadyH.cons (o := { dst := some 71, op := Go.Op.buildSlice 22 1 #[(0, Go.Operand.tmp 70)], type := 22, pos := "law.go:83", after := #[{ on := 6, ground := Go.Ground.data }], guard := none }) rfl (fun K hK => ?_) AllReadyH.nil
        refine st_news (y := 70) rfl rfl rfl (fun bn wn hge hrow hbel => ?_)
        replace P13 := Lib.hid (And.intro (hp_on' P13.out.1 hbel) P13.out.2)
        replace P14 := Lib.hid (And.intro (hp_on' P14.out.1 hbel) P14.out.2)
        have N := Lib.hid (And.intro hrow (Nat.le_trans HS.size hge))
        clear hrow hge
        have HS2 := HS.trans (hbel.mono HS.size)
        clear HS hbel
        refine hK.out _ _ HS2 (fun HS => ?_)
        clear HS2 hK
        try simp only [Act.put, List.setIfInBounds_toArray, List.set_cons_zero, List.set_cons_succ]
        refine wpAnyH_ready (rs := [8]) (by kernel_rfl) (by simp) ?_
        refine AllReadyH.cons (o := { dst := some 72, op := Go.Op.call { callee := Go.Callee.builtin Go.Builtin.append, args := #[Go.Operand.tmp 69, Go.Operand.tmp 71], argTypes := #[22, 22] }, type := 22, pos := "law.go:83", after := #[{ on := 5, ground := Go.Ground.data }, { on := 7, ground := Go.Ground.data }], guard := none }) rfl (fun K hK => ?_) AllReadyH.nil
        refine step_append_grows rfl (.tmp 69) (.tmp 71) 22 rfl 46 i0 _ 4 32 Try.underlying22 HI.out.1 HI.out.2.1 HI.out.2.2.1 HI.out.2.2.2 rfl (by decide) A l.length l.length (tCells l) rfl (fun e => ⟨(HA.out e).1, (HA.out e).1⟩) (tCells_len l) (trow_cells (L6.out.ra.below HS)) ⟨bn, 0, none⟩ 1 1 [.int .u64 t0, .int .u64 t1, .int .i64 t2, .int .i64 t3] rfl rfl (World.news_of_block N.out.1) (by simp [Value.oneCell']) (by omega) (by unfold maxLen; omega) (by omega) ?_
        intro v7 wn hown hgr
        obtain ⟨A7, c7, rfl, hrr⟩ := trow_snoc (t := ⟨t0, t1, t2, t3⟩) hown
        have hbel := below_grown0 hgr
        clear N hown hgr
        replace P13 := Lib.hid (And.intro (hp_on' P13.out.1 hbel) P13.out.2)
        replace P14 := Lib.hid (And.intro (hp_on' P14.out.1 hbel) P14.out.2)
        have RR := Lib.hid hrr
        clear hrr
        have HS2 := HS.trans (hbel.mono HS.size)
        clear HS hbel
        refine hK.out _ _ HS2 (fun HS => ?_)
        clear HS2 hK
        try simp only [Act.put, List.setIfInBounds_toArray, List.set_cons_zero, List.set_cons_succ]
        refine wpAnyH_ready (rs := [9]) (by kernel_rfl) (by simp) ?_
        refine AllReadyH.cons (o := { dst := some 73, op := Go.Op.call { callee := Go.Callee.value (Go.Operand.func 7), args := #[Go.Operand.tmp 72], argTypes := #[22] }, type := 26, pos := "law.go:83", after := #[{ on := 8, ground := Go.Ground.data }, { on := 8, ground := Go.Ground.chain }], guard := none }) rfl (fun K hK => ?_) AllReadyH.nil
        go_simp
        refine (cD.out _ A7 c7 RR.out).mono ?_; rintro e wn ⟨rfl, hbel⟩
        clear RR
        replace P13 := Lib.hid (And.intro (hp_on' P13.out.1 hbel) P13.out.2)
        replace P14 := Lib.hid (And.intro (hp_on' P14.out.1 hbel) P14.out.2)
        have HS2 := HS.trans (hbel.mono HS.size)
        clear HS hbel
        refine hK.out _ _ HS2 (fun HS => ?_)
        clear HS2 hK
        try simp only [Act.put, List.setIfInBounds_toArray, List.set_cons_zero, List.set_cons_succ]
        refine wpAnyH_ready (rs := [13]) (by kernel_rfl) (by simp) ?_
        refine AllReadyH.cons (o := { dst := some 77, op := Go.Op.call { callee := Go.Callee.value (Go.Operand.func 16), args := #[Go.Operand.tmp 74, Go.Operand.tmp 75, Go.Operand.tmp 76], argTypes := #[26, 2, 46] }, type := 26, pos := "law.go:83", after := #[{ on := 10, ground := Go.Ground.data }, { on := 11, ground := Go.Ground.data }, { on := 12, ground := Go.Ground.data }, { on := 9, ground := Go.Ground.chain }], guard := none }) rfl (fun K hK => ?_) AllReadyH.nil
        go_simp
        refine (cT.out _).mono ?_; rintro e wn ⟨rfl, hbel⟩
        replace P13 := Lib.hid (And.intro (hp_on' P13.out.1 hbel) P13.out.2)
        replace P14 := Lib.hid (And.intro (hp_on' P14.out.1 hbel) P14.out.2)
        have HS2 := HS.trans (hbel.mono HS.size)
        clear HS hbel
        refine hK.out _ _ HS2 (fun HS => ?_)
        clear HS2 hK
        try simp only [Act.put, List.setIfInBounds_toArray, List.set_cons_zero, List.set_cons_succ]
        refine wpAnyH_ready (rs := [16]) (by kernel_rfl) (by simp) ?_
        refine AllReadyH.cons (o := { dst := none, op := Go.Op.store 26 (Go.Operand.tmp 13) (Go.Operand.tmp 73), type := 0, pos := "law.go:83", after := #[{ on := 14, ground := Go.Ground.data }, { on := 9, ground := Go.Ground.data }, { on := 13, ground := Go.Ground.chain }, { on := 0, ground := Go.Ground.phase }, { on := 1, ground := Go.Ground.phase }, { on := 2, ground := Go.Ground.phase }, { on := 3, ground := Go.Ground.phase }, { on := 4, ground := Go.Ground.phase }, { on := 5, ground := Go.Ground.phase }, { on := 6, ground := Go.Ground.phase }, { on := 7, ground := Go.Ground.phase }, { on := 8, ground := Go.Ground.phase }, { on := 9, ground := Go.Ground.phase }, { on := 10, ground := Go.Ground.textOnly Go.Departure.lateStores }, { on := 11, ground := Go.Ground.textOnly Go.Departure.lateStores }, { on := 12, ground := Go.Ground.textOnly Go.Departure.lateStores }, { on := 13, ground := Go.Ground.textOnly Go.Departure.lateStoresUnsure }, { on := 14, ground := Go.Ground.phase }, { on := 15, ground := Go.Ground.phase }], guard := none }) rfl (fun K hK => ?_) AllReadyH.nil
        refine st_store (p := 13) (q := 73) (b := b13) (u := zW) (v := qd) rfl rfl rfl rfl P13.out.1 rfl (fun wn hrow hgr => ?_)
        replace P14 := Lib.hid (And.intro (keep_other P14.out.1 hgr (by have := D.out; omega)) P14.out.2)
        have HS2 := below_grown1 HS hgr P13.out.2
        replace P13 := Lib.hid (And.intro hrow P13.out.2)
        clear HS hrow hgr
        refine hK.out _ _ HS2 (fun HS => ?_)
        clear HS2 hK
        try simp only [Act.put, List.setIfInBounds_toArray, List.set_cons_zero, List.set_cons_succ]
        refine wpAnyH_ready (rs := [17]) (by kernel_rfl) (by simp) ?_
        refine AllReadyH.cons (o := { dst := none, op := Go.Op.store 26 (Go.Operand.tmp 14) (Go.Operand.tmp 77), type := 0, pos := "law.go:83", after := #[{ on := 15, ground := Go.Ground.data }, { on := 13, ground := Go.Ground.data }, { on := 16, ground := Go.Ground.chain }, { on := 0, ground := Go.Ground.phase }, { on := 1, ground := Go.Ground.phase }, { on := 2, ground := Go.Ground.phase }, { on := 3, ground := Go.Ground.phase }, { on := 4, ground := Go.Ground.phase }, { on := 5, ground := Go.Ground.phase }, { on := 6, ground := Go.Ground.phase }, { on := 7, ground := Go.Ground.phase }, { on := 8, ground := Go.Ground.phase }, { on := 9, ground := Go.Ground.phase }, { on := 10, ground := Go.Ground.phase }, { on := 11, ground := Go.Ground.phase }, { on := 12, ground := Go.Ground.phase }, { on := 13, ground := Go.Ground.phase }, { on := 14, ground := Go.Ground.phase }, { on := 15, ground := Go.Ground.phase }, { on := 16, ground := Go.Ground.phase }], guard := none }) rfl (fun K hK => ?_) AllReadyH.nil
        refine st_store (p := 14) (q := 77) (b := b14) (u := zW) (v := qd) rfl rfl rfl rfl P14.out.1 rfl (fun wn hrow hgr => ?_)
        replace P13 := Lib.hid (And.intro (keep_other P13.out.1 hgr (by have := D.out; omega)) P13.out.2)
        have HS2 := below_grown1 HS hgr P14.out.2
        replace P14 := Lib.hid (And.intro hrow P14.out.2)
        clear HS hrow hgr
        refine hK.out _ _ HS2 (fun HS => ?_)
        clear HS2 hK
        try simp only [Act.put, List.setIfInBounds_toArray, List.set_cons_zero, List.set_cons_succ]
        refine wpAnyH_done (by kernel_rfl) ?_ _
        refine NoPanic.normal ?_
        go_wp2
        go_meet
        case rel => exact ⟨b13, b14, rfl, rfl, P13.out.1, P14.out.1, HS⟩
      case rest =>
      obtain ⟨k13, k14, rfl, rfl, h13, h14, hb7⟩ := hcut
      have L7 := Lib.hid (L6.out.on hb7)
      obtain ⟨⟨a0, a1, a2, a3, a4⟩, -⟩ := row5 L7.out.b9
      obtain ⟨⟨b0, b1, b2, b3, b4⟩, -⟩ := row5 L7.out.b10
      obtain ⟨⟨d0, d1, d2, d3, d4⟩, -⟩ := row5 L7.out.b11
      obtain ⟨⟨e0, e1, e2, e3, e4⟩, -⟩ := row5 h13
      obtain ⟨⟨g0, g1, g2, g3, g4⟩, -⟩ := row5 h14
      clear h13 h14 hb7 L6 hsl cD cT
      go_wp2_with (first
        | (go_at_call 12; (with_reducible refine (kB.out _ L7.out.rb).mono ?_); rintro e w8 ⟨rfl, hb8⟩; have R8 := Lib.hid (L7.out.ra.below hb8); have B8 := Lib.hid (L7.out.below.trans (hb8.mono L7.out.below.size)); clear hb8)
        | (go_at_call 12; (with_reducible refine (kA.out _ R8.out).mono ?_); rintro e w9 ⟨rfl, hb9⟩; have B9 := Lib.hid (B8.out.trans (hb9.mono B8.out.size)); clear hb9))
      go_ret
      exact ⟨rfl, B9.out⟩
theorem mirrors_long (A : Option Addr) (c : Nat) (l : List Trd) (t0 t1 t2 t3 : Int) (hl : ¬ l.length ≤ 100) (w : World) :
    Calls Try.prog 5 #[.slice A l.length c, .agg #[.int .u64 t0, .int .u64 t1, .int .i64 t2, .int .i64 t3]] w fun e w' => e = .returned (.bool true) ∧ Below w.heap.size w w' := by
  have hl' : (100 : Int) < (l.length : Int) := by omega
  go_enter Try.func5, Try.ntmps5
  go_wp2_with (go_at_call 6; (with_reducible refine (awake34_any _).mono ?_); rintro e w1 ⟨rfl, hb1⟩)
  go_ret
  exact ⟨rfl, ((Below.refl _ w).alloc (Nat.le_refl _) _).trans (hb1.mono (by simp))⟩
end Go.Proofs.Ytndjoafeijepeaa.Wk
