/-
  The document's own edits, walked: Bytes. Conditions: as each theorem states.
-/
import Derived.Test.YtomokbcamfmfcaaDoorEdTo
import Derived.Deep.RegionHeldLaw
namespace Go.Proofs.YtomokbcamfmfcaaDoor.Ed
open Go.RowKit
open Go.Proofs.YtomokbcamfmfcaaDoor
open Vi Ba

def On (w : World) (o : Obj) (wr : World) : Prop := Below (w.heap.size + 1) (w.alloc o) wr
theorem on_start {w w2 : World} {o : Obj} (h : Below (w.alloc o).heap.size (w.alloc o) w2) : On w o w2 := h.mono (by simp)
theorem on_step {w wr w2 : World} {o : Obj} (h : On w o wr) (h2 : Below wr.heap.size wr w2) : On w o w2 := h.trans (h2.mono (box_size h))
theorem on_drew {w wr : World} {o : Obj} (h : On w o wr) : On w o wr.drew := Below.drew h
theorem on_alloc {w wr : World} {o : Obj} (h : On w o wr) (o2 : Obj) : On w o (wr.alloc o2) := Below.alloc h (box_size h) _
theorem on_box {w wr : World} {x0 x1 x2 x3 x4 : Value} {t : TypeId} (h : On w (.cells #[x0, x1, x2, x3, x4] t (0, 0)) wr) :
    wr.cell? ⟨w.heap.size, 0, none⟩ = some x0 ∧ wr.cell? ⟨w.heap.size, 1, none⟩ = some x1 ∧ wr.cell? ⟨w.heap.size, 2, none⟩ = some x2 ∧ wr.cell? ⟨w.heap.size, 3, none⟩ = some x3 ∧ wr.cell? ⟨w.heap.size, 4, none⟩ = some x4 := box5 h
theorem vnum_size {n : Nat} (h : n < 18446744073709551616) : (bs (vnum n)).size ≤ 10 := by rw [bs_size]; exact vnum_len10 h
theorem wrap_u64 {n : Nat} (h : n < 18446744073709551616) : IntKind.u64.wrap (n : Int) = (n : Int) := by rw [IntKind.wrap_u64]; omega
theorem refNum_wrap (n : Nat) (hn : n < 18446744073709551616) (w : World) :
    Calls Tryd.prog 36 #[.int .u64 (IntKind.u64.wrap (n : Int))] w fun e w' => e = .returned (.string (bs (vnum n))) ∧ Below w.heap.size w w' := by
  rw [wrap_u64 hn]; exact refNum_any n hn w
theorem vn4 (a b c d : Nat) : bs (vnum a) ++ bs (vnum b) ++ bs (vnum c) ++ bs (vnum d) = bs (vn [a, b, c, d]) := by
  simp only [bs_append, vn_cons, vn_nil, List.append_nil, List.append_assoc]
theorem strA (X P Q : List UInt8) (a b c d : Nat) : bs X ++ bs (vnum a) ++ bs (vnum b) ++ bs (vnum c) ++ bs (vnum d) ++ bs P ++ bs Q = bs (((X ++ vn [a, b, c, d]) ++ P) ++ Q) := by
  simp only [bs_append, vn_cons, vn_nil, List.append_nil, List.append_assoc]
theorem strG (X : List UInt8) (a b : Nat) : bs X ++ bs (vnum a) ++ bs (vnum b) = bs (X ++ vn [a, b]) := by
  simp only [bs_append, vn_cons, vn_nil, List.append_nil, List.append_assoc]
/-- the box, and one more box -/
structure OnB (w : World) (o : Obj) (k0 : Nat) (o2 : Obj) (W : World) : Prop where
  on : On w o W
  box : W.heap[k0]? = some o2
theorem onb_new {w wr : World} {o : Obj} (h : On w o wr) (o2 : Obj) : OnB w o wr.heap.size o2 (wr.alloc o2) := ⟨on_alloc h o2, heap_alloc_new _ _⟩
theorem onb_step {w W W2 : World} {o o2 : Obj} {k0 : Nat} (h : OnB w o k0 o2 W) (h2 : Below W.heap.size W W2) : OnB w o k0 o2 W2 := ⟨on_step h.on h2, (h2.block _ (Array.getElem?_eq_some_iff.1 h.box).1).trans h.box⟩
theorem onb_drew {w W : World} {o o2 : Obj} {k0 : Nat} (h : OnB w o k0 o2 W) : OnB w o k0 o2 W.drew := ⟨on_drew h.on, h.box⟩
theorem cells6 {w W : World} {o : Obj} {k0 : Nat} {x0 x1 x2 x3 x4 x5 : Value} {t : TypeId} (h : OnB w o k0 (.cells #[x0, x1, x2, x3, x4, x5] t (0, 0)) W) :
    W.cell? ⟨k0, 0, none⟩ = some x0 ∧ W.cell? ⟨k0, 1, none⟩ = some x1 ∧ W.cell? ⟨k0, 2, none⟩ = some x2 ∧ W.cell? ⟨k0, 3, none⟩ = some x3 ∧ W.cell? ⟨k0, 4, none⟩ = some x4 ∧ W.cell? ⟨k0, 5, none⟩ = some x5 :=
  ⟨cell_in h.box 0 _ rfl, cell_in h.box 1 _ rfl, cell_in h.box 2 _ rfl, cell_in h.box 3 _ rfl, cell_in h.box 4 _ rfl, cell_in h.box 5 _ rfl⟩
theorem cells2 {w W : World} {o : Obj} {k0 : Nat} {x0 x1 : Value} {t : TypeId} (h : OnB w o k0 (.cells #[x0, x1] t (0, 0)) W) :
    W.cell? ⟨k0, 0, none⟩ = some x0 ∧ W.cell? ⟨k0, 1, none⟩ = some x1 := ⟨cell_in h.box 0 _ rfl, cell_in h.box 1 _ rfl⟩
def VaRel (w : World) (o : Obj) (log next seq : Nat) (come : List Fil) (vs iv : Value) (wr : World) : Prop :=
  ∃ j : Nat, j ≤ come.length ∧ vs = .string (bs (toA log next seq come j)) ∧ iv = .int .i64 (j : Nat) ∧ On w o wr
def VgRel (w : World) (o : Obj) (log next seq : Nat) (come : List Fil) (go : List Gon) (vs iv : Value) (wr : World) : Prop :=
  ∃ j : Nat, j ≤ go.length ∧ vs = .string (bs (toG log next seq come go j)) ∧ iv = .int .i64 (j : Nat) ∧ On w o wr
theorem rbytes_bad {e : Edt} {A G : Option Addr} (c d : Nat) {w : World} (H : Lies w e A G) (hc : ¬ chkE e = 0) :
    Calls Tryd.prog 16 #[e.val A c G d] w (EbPost w [] (chkE e)) := by
  have HC := Lib.hid fun (W : World) (h : Lies W e A G) => rcheck_any c d h
  have R1 := Lib.hid (H.on ((Below.refl _ _).alloc (Nat.le_refl _) (.cells #[.int .u64 e.log, .int .u64 e.next, .int .u64 e.seq, .slice A e.come.length c, .slice G e.go.length d] 44 (0, 0))))
  have hc' : (chkE e == 0) = false := by simpa using hc
  have hc2 : (chkE e != 0) = true := by simp [bne, hc']
  clear H hc
  obtain ⟨log, next, seq, come, go⟩ := e
  unfold Edt.val at *
  simp only at *
  generalize chkE ⟨log, next, seq, come, go⟩ = z at *
  go_enter Tryd.func16, Tryd.ntmps16
  go_wp2_with (go_at_call 19; (with_reducible refine (HC.out _ R1.out).mono ?_); rintro e w2 ⟨rfl, hb2⟩)
  go_ret2
  exact ⟨rfl, ((Below.refl _ _).alloc (Nat.le_refl _) _).trans (hb2.mono (by simp))⟩
set_option maxHeartbeats 8000000 in
set_option maxRecDepth 100000 in
theorem rbytes_ok {e : Edt} {A G : Option Addr} (c d : Nat) {w : World} (H : Lies w e A G) (hc : chkE e = 0) :
    Calls Tryd.prog 16 #[e.val A c G d] w (EbPost w (eb e) 0) := by
  obtain ⟨k1, k2, k3, k4⟩ := chkE_ok.1 hc
  have HC := Lib.hid fun (W : World) (h : Lies W e A G) => rcheck_any c d h
  rw [hc] at HC
  have R1 := Lib.hid (H.on ((Below.refl _ _).alloc (Nat.le_refl _) (.cells #[.int .u64 e.log, .int .u64 e.next, .int .u64 e.seq, .slice A e.come.length c, .slice G e.go.length d] 44 (0, 0))))
  obtain ⟨log, next, seq, come, go⟩ := e
  obtain ⟨RA, RG, ⟨o1, o2, o3, oa, og⟩, la, lg⟩ := H
  unfold Edt.val at *
  simp only at *
  replace RA := Lib.hid RA
  replace RG := Lib.hid RG
  have TA := Lib.hid (toA_len o1 o2 o3 k1 oa k3)
  have TG := Lib.hid (toG_len o1 o2 o3 k1 oa k3 k2 og k4)
  have N1 := Lib.hid (refNum_any log o1)
  have N2 := Lib.hid (refNum_any next o2)
  have N3 := Lib.hid (refNum_any seq o3)
  have N4 := Lib.hid (refNum_any come.length (by omega))
  have N4w := Lib.hid (refNum_wrap come.length (by omega))
  have N5 := Lib.hid (refNum_any go.length (by omega))
  have N5w := Lib.hid (refNum_wrap go.length (by omega))
  have z1 := vnum_size o1
  have z2 := vnum_size o2
  have z3 := vnum_size o3
  have z4 := vnum_size (n := come.length) (by omega)
  have z5 := vnum_size (n := go.length) (by omega)
  have cc2 : ¬ (9223372036854775807 < (bs (vnum log)).size + (bs (vnum next)).size) := by omega
  have cc3 : ¬ (9223372036854775807 < (bs (vnum log)).size + (bs (vnum next)).size + (bs (vnum seq)).size) := by omega
  have cc4 : ¬ (9223372036854775807 < (bs (vnum log)).size + (bs (vnum next)).size + (bs (vnum seq)).size + (bs (vnum come.length)).size) := by omega
  replace oa := Lib.hid oa
  replace og := Lib.hid og
  replace k3 := Lib.hid k3
  replace k4 := Lib.hid k4
  clear hc
  go_enter Tryd.func16, Tryd.ntmps16
  go_wp2_with (first
    | (go_at_call 19; (with_reducible refine (HC.out _ R1.out).mono ?_); rintro e w2 ⟨rfl, hb2⟩; have B2 := Lib.hid (on_start hb2); obtain ⟨d0, d1, d2, d3, d4⟩ := on_box B2.out; clear hb2))
  go_region_held_law (fun wx => wx.cell? ⟨w.heap.size, 0, none⟩ = some (.int .u64 log) ∧ wx.cell? ⟨w.heap.size, 1, none⟩ = some (.int .u64 next) ∧ wx.cell? ⟨w.heap.size, 2, none⟩ = some (.int .u64 seq) ∧ wx.cell? ⟨w.heap.size, 3, none⟩ = some (.slice A come.length c) ∧ wx.cell? ⟨w.heap.size, 4, none⟩ = some (.slice G go.length d))
    (first | exact on_box B2.out | exact on_box B3.out | exact on_box B4.out | exact on_box B5.out | exact on_box B6.out | exact on_box (on_drew B2.out) | exact on_box (on_drew B3.out) | exact on_box (on_drew B4.out) | exact on_box (on_drew B5.out))
    (first
      | (go_at_call 36; (with_reducible refine (N1.out _).mono ?_); rintro e w3 ⟨rfl, b3⟩; have B3 := Lib.hid (by first | exact on_step B2.out b3 | exact on_step (on_drew B2.out) b3); clear b3)
      | (go_at_call 36; (with_reducible refine (N2.out _).mono ?_); rintro e w4 ⟨rfl, b4⟩; have B4 := Lib.hid (by first | exact on_step B3.out b4 | exact on_step (on_drew B3.out) b4); clear b4)
      | (go_at_call 36; (with_reducible refine (N3.out _).mono ?_); rintro e w5 ⟨rfl, b5⟩; have B5 := Lib.hid (by first | exact on_step B4.out b5 | exact on_step (on_drew B4.out) b5); clear b5)
      | (go_at_call 36; (with_reducible first | refine (N4.out _).mono ?_ | refine (N4w.out _).mono ?_); rintro e w6 ⟨rfl, b6⟩; have B6 := Lib.hid (by first | exact on_step B5.out b6 | exact on_step (on_drew B5.out) b6); clear b6))
  all_goals
    go_wp2
    go_loopw [5, 35] (VaRel w (.cells #[.int .u64 log, .int .u64 next, .int .u64 seq, .slice A come.length c, .slice G go.length d] 44 (0, 0)) log next seq come) (fun _ i _ => come.length - (intOf i).toNat)
    case atStart => exact ⟨0, by omega, by rw [vn4, ← toA_zero]; rfl, rfl, B6.out⟩
    case round =>
      obtain ⟨j, hj, rfl, rfl, hrel⟩ := hrel
      have C0 := Lib.hid hrel
      clear hrel B2 B3 B4 B5 B6
      by_cases hlt : j < come.length
      · obtain ⟨a, rfl, hab, hca⟩ := RA.out (by omega)
        have hck := k3.out come[j] (List.getElem_mem hlt)
        have hok := oa.out come[j] (List.getElem_mem hlt)
        have hbl : (a.add (j * 6)).block < w.heap.size := by rw [block_add]; exact hab
        have hx := (hca j hlt).on hbl (box_below C0.out)
        clear hca
        have zA : (bs (toA log next seq come j)).size ≤ 92040 := by rw [bs_size]; exact TA.out j
        generalize hy : come[j] = y at hx hck hok
        replace hy := Lib.hid hy
        obtain ⟨lv, n, s, q, l, m⟩ := y
        obtain ⟨t1, t2, t3, _, _⟩ := chkA_ok.1 hck
        obtain ⟨_, _, p1, p2, p3, _, _⟩ := hok
        obtain ⟨lv, rfl, hlv⟩ := nat_level t1
        obtain ⟨x0, x1, x2, x3, x4, x5⟩ := hx
        simp only at t2 t3 p1 p2 p3 x0 x1 x2 x3 x4 x5
        have q1 := t2.2
        have q2 := t3.2
        have zv := vnum_size (n := lv) (by omega)
        have zn := vnum_size p1
        have zs := vnum_size p2
        have zq := vnum_size p3
        have zl : (bs (vtx l)).size ≤ 210 := by rw [bs_size]; have := vtx_len (s := l) (by omega); omega
        have zm : (bs (vtx m)).size ≤ 210 := by rw [bs_size]; have := vtx_len (s := m) (by omega); omega
        have ca2 : ¬ (9223372036854775807 < (bs (toA log next seq come j)).size + (bs (vnum lv)).size) := by omega
        have ca3 : ¬ (9223372036854775807 < (bs (toA log next seq come j)).size + (bs (vnum lv)).size + (bs (vnum n)).size) := by omega
        have ca4 : ¬ (9223372036854775807 < (bs (toA log next seq come j)).size + (bs (vnum lv)).size + (bs (vnum n)).size + (bs (vnum s)).size) := by omega
        have ca5 : ¬ (9223372036854775807 < (bs (toA log next seq come j)).size + (bs (vnum lv)).size + (bs (vnum n)).size + (bs (vnum s)).size + (bs (vnum q)).size) := by omega
        have ca6 : ¬ (9223372036854775807 < (bs (toA log next seq come j)).size + (bs (vnum lv)).size + (bs (vnum n)).size + (bs (vnum s)).size + (bs (vnum q)).size + (bs (vtx l)).size) := by omega
        have ca7 : ¬ (9223372036854775807 < (bs (toA log next seq come j)).size + (bs (vnum lv)).size + (bs (vnum n)).size + (bs (vnum s)).size + (bs (vnum q)).size + (bs (vtx l)).size + (bs (vtx m)).size) := by omega
        have M1 := Lib.hid (refNum_any lv (by omega))
        have M1w := Lib.hid (refNum_wrap lv (by omega))
        have M2 := Lib.hid (refNum_any n p1)
        have M3 := Lib.hid (refNum_any s p2)
        have M4 := Lib.hid (refNum_any q p3)
        have T1 := Lib.hid (refText_any l (by omega))
        have T2 := Lib.hid (refText_any m (by omega))
        have E0 := Lib.hid (onb_new C0.out (.cells #[.int .i64 lv, .int .u64 n, .int .u64 s, .int .u64 q, .string l, .string m] 85 (0, 0)))
        have HS := Lib.hid ((strA (toA log next seq come j) (vtx l) (vtx m) lv n s q).trans (congrArg bs (toA_on hlt hy.out)))
        clear hck t1 t2 t3
        go_wp2
        go_region_held_law (fun wx => wx.cell? ⟨wr.heap.size, 0, none⟩ = some (.int .i64 lv) ∧ wx.cell? ⟨wr.heap.size, 1, none⟩ = some (.int .u64 n) ∧ wx.cell? ⟨wr.heap.size, 2, none⟩ = some (.int .u64 s) ∧ wx.cell? ⟨wr.heap.size, 3, none⟩ = some (.int .u64 q) ∧ wx.cell? ⟨wr.heap.size, 4, none⟩ = some (.string l) ∧ wx.cell? ⟨wr.heap.size, 5, none⟩ = some (.string m))
          (first | exact cells6 E0.out | exact cells6 E1.out | exact cells6 E2.out | exact cells6 E3.out | exact cells6 E4.out | exact cells6 E5.out | exact cells6 E6.out | exact cells6 (onb_drew E0.out) | exact cells6 (onb_drew E1.out) | exact cells6 (onb_drew E2.out) | exact cells6 (onb_drew E3.out) | exact cells6 (onb_drew E4.out) | exact cells6 (onb_drew E5.out))
          (first
            | (go_at_call 36; (with_reducible first | refine (M1.out _).mono ?_ | refine (M1w.out _).mono ?_); rintro e w3 ⟨rfl, b3⟩; have E1 := Lib.hid (by first | exact onb_step E0.out b3 | exact onb_step (onb_drew E0.out) b3); clear b3)
            | (go_at_call 36; (with_reducible refine (M2.out _).mono ?_); rintro e w4 ⟨rfl, b4⟩; have E2 := Lib.hid (by first | exact onb_step E1.out b4 | exact onb_step (onb_drew E1.out) b4); clear b4)
            | (go_at_call 36; (with_reducible refine (M3.out _).mono ?_); rintro e w5 ⟨rfl, b5⟩; have E3 := Lib.hid (by first | exact onb_step E2.out b5 | exact onb_step (onb_drew E2.out) b5); clear b5)
            | (go_at_call 36; (with_reducible refine (M4.out _).mono ?_); rintro e w6 ⟨rfl, b6⟩; have E4 := Lib.hid (by first | exact onb_step E3.out b6 | exact onb_step (onb_drew E3.out) b6); clear b6)
            | (go_at_call 37; (with_reducible refine (T1.out _).mono ?_); rintro e w7 ⟨rfl, b7⟩; have E5 := Lib.hid (by first | exact onb_step E4.out b7 | exact onb_step (onb_drew E4.out) b7); clear b7)
            | (go_at_call 37; (with_reducible refine (T2.out _).mono ?_); rintro e w8 ⟨rfl, b8⟩; have E6 := Lib.hid (by first | exact onb_step E5.out b8 | exact onb_step (onb_drew E5.out) b8); clear b8))
        all_goals
          go_wp2
          go_roundw
          case rel => exact ⟨j + 1, by omega, by rw [HS.out], by go_num, by first | exact E6.out.on | exact (onb_drew E6.out).on⟩
          case measure => simp [intOf]; omega
      · have hj2 : j = come.length := by omega
        subst hj2
        obtain ⟨d0, d1, d2, d3, d4⟩ := on_box C0.out
        have zA : (bs (toA log next seq come come.length)).size ≤ 92040 := by rw [bs_size]; exact TA.out _
        have cg2 : ¬ (9223372036854775807 < (bs (toA log next seq come come.length)).size + (bs (vnum go.length)).size) := by omega
        clear hlt hj
        go_wp2_with (first
          | (go_at_call 36; (with_reducible first | refine (N5.out _).mono ?_ | refine (N5w.out _).mono ?_); rintro e w3 ⟨rfl, b3⟩; have C1 := Lib.hid (by first | exact on_step C0.out b3 | exact on_step (on_drew C0.out) b3); obtain ⟨g0, g1, g2, g3, g4⟩ := on_box C1.out; clear b3))
        go_loopw [5, 81] (VgRel w (.cells #[.int .u64 log, .int .u64 next, .int .u64 seq, .slice A come.length c, .slice G go.length d] 44 (0, 0)) log next seq come go) (fun _ i _ => go.length - (intOf i).toNat)
        case atStart => exact ⟨0, by omega, by rw [← toG_zero]; simp only [bs_append, vn_cons, vn_nil, List.append_nil], rfl, C1.out⟩
        case round =>
          clear d0 d1 d2 d3 d4 g0 g1 g2 g3 g4 C0 C1 cg2 zA
          obtain ⟨j, hj, rfl, rfl, hrel⟩ := hrel
          have C0 := Lib.hid hrel
          clear hrel
          by_cases hlt : j < go.length
          · obtain ⟨a, rfl, hab, hca⟩ := RG.out (by omega)
            have hck := k4.out go[j] (List.getElem_mem hlt)
            have hok := og.out go[j] (List.getElem_mem hlt)
            have hbl : (a.add (j * 2)).block < w.heap.size := by rw [block_add]; exact hab
            have hx := (hca j hlt).on hbl (box_below C0.out)
            clear hca
            have zA : (bs (toG log next seq come go j)).size ≤ 100000 := by rw [bs_size]; exact TG.out j
            generalize hy : go[j] = y at hx hck hok
            replace hy := Lib.hid hy
            obtain ⟨lv, n⟩ := y
            have p1 := hok.2.2
            obtain ⟨lv, rfl, hlv⟩ := nat_level hck
            obtain ⟨x0, x1⟩ := hx
            simp only at p1 x0 x1
            have zv := vnum_size (n := lv) (by omega)
            have zn := vnum_size p1
            have cb2 : ¬ (9223372036854775807 < (bs (toG log next seq come go j)).size + (bs (vnum lv)).size) := by omega
            have cb3 : ¬ (9223372036854775807 < (bs (toG log next seq come go j)).size + (bs (vnum lv)).size + (bs (vnum n)).size) := by omega
            have M1 := Lib.hid (refNum_any lv (by omega))
            have M1w := Lib.hid (refNum_wrap lv (by omega))
            have M2 := Lib.hid (refNum_any n p1)
            have E0 := Lib.hid (onb_new C0.out (.cells #[.int .i64 lv, .int .u64 n] 86 (0, 0)))
            have HS := Lib.hid ((strG (toG log next seq come go j) lv n).trans (congrArg bs (toG_on hlt hy.out)))
            clear hck hok
            go_wp2
            go_region_held_law (fun wx => wx.cell? ⟨wr.heap.size, 0, none⟩ = some (.int .i64 lv) ∧ wx.cell? ⟨wr.heap.size, 1, none⟩ = some (.int .u64 n))
              (first | exact cells2 E0.out | exact cells2 E1.out | exact cells2 E2.out | exact cells2 (onb_drew E0.out) | exact cells2 (onb_drew E1.out))
              (first
                | (go_at_call 36; (with_reducible first | refine (M1.out _).mono ?_ | refine (M1w.out _).mono ?_); rintro e w3 ⟨rfl, b3⟩; have E1 := Lib.hid (by first | exact onb_step E0.out b3 | exact onb_step (onb_drew E0.out) b3); clear b3)
                | (go_at_call 36; (with_reducible refine (M2.out _).mono ?_); rintro e w4 ⟨rfl, b4⟩; have E2 := Lib.hid (by first | exact onb_step E1.out b4 | exact onb_step (onb_drew E1.out) b4); clear b4))
            all_goals
              go_wp2
              go_roundw
              case rel => exact ⟨j + 1, by omega, by rw [HS.out], by go_num, by first | exact E2.out.on | exact (onb_drew E2.out).on⟩
              case measure => simp [intOf]; omega
          · have hj2 : j = go.length := by omega
            subst hj2
            clear hlt hj
            go_wp2
            go_ret2
            exact ⟨by rw [toG_all]; rfl, ((Below.refl _ _).alloc (Nat.le_refl _) _).trans (C0.out.mono (by simp))⟩
end Go.Proofs.YtomokbcamfmfcaaDoor.Ed
