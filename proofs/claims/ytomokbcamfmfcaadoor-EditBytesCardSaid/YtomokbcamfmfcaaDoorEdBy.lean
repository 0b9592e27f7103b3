/-
  The law EditBytes walked. Conditions: as each theorem states.
-/
import Derived.Test.YtomokbcamfmfcaaDoorEdV
import Derived.Test.YtomokbcamfmfcaaDoorEdY
import Derived.Test.YtomokbcamfmfcaaDoorEdM
namespace Go.Proofs.YtomokbcamfmfcaaDoor.Ed
open Go.RowKit
open Go.Proofs.YtomokbcamfmfcaaDoor
open Vi Ba

abbrev rBox5 (l n s : Nat) (va vg : Value) : Obj := .cells #[.int .u64 l, .int .u64 n, .int .u64 s, va, vg] 44 (0, 0)
theorem qparse_at (s : ByteArray) (hs : s.size ≤ 1000000) {x : Edt} {err : Int} (h : parse s.data.toList = (x, err)) (w : World) : Calls Tryd.prog 17 #[.string s] w (PrPost w x err) := by
  have := Q.qparse_any s hs w
  unfold EpPost at this
  rw [h] at this
  exact this
theorem bytes_both (e : Edt) : ∃ L : List UInt8, (∀ (W : World) (A G : Option Addr) (c d : Nat), Lies W e A G → Calls Tryd.prog 12 #[e.val A c G d] W (EbPost W L (chkE e))) ∧ (∀ (W : World) (A G : Option Addr) (c d : Nat), Lies W e A G → Calls Tryd.prog 16 #[e.val A c G d] W (EbPost W L (chkE e))) := by
  by_cases hc : chkE e = 0
  · rw [hc]
    exact ⟨eb e, fun W A G c d h => ebytes_ok c d h hc, fun W A G c d h => rbytes_ok c d h hc⟩
  · exact ⟨[], fun W A G c d h => ebytes_bad c d h hc, fun W A G c d h => rbytes_bad c d h hc⟩
theorem on_below {w wr : World} {o : Obj} (h : On w o wr) : Below w.heap.size w wr := box_below h
/-- three boxes, and what lies there -/
structure BS (w : World) (oe : Obj) (k1 : Nat) (ox : Obj) (k2 : Nat) (oy : Obj) (x : Edt) (Ax Gx Ay Gy : Option Addr) (W : World) : Prop where
  on : On w oe W
  bx : W.heap[k1]? = some ox
  by' : W.heap[k2]? = some oy
  lx : Lies W x Ax Gx
  ly : Lies W x Ay Gy
theorem bs_step {w W W2 : World} {oe ox oy : Obj} {k1 k2 : Nat} {x : Edt} {Ax Gx Ay Gy : Option Addr} (h : BS w oe k1 ox k2 oy x Ax Gx Ay Gy W) (h2 : Below W.heap.size W W2) : BS w oe k1 ox k2 oy x Ax Gx Ay Gy W2 :=
  ⟨on_step h.on h2, (h2.block _ (Array.getElem?_eq_some_iff.1 h.bx).1).trans h.bx, (h2.block _ (Array.getElem?_eq_some_iff.1 h.by').1).trans h.by', h.lx.on h2, h.ly.on h2⟩
theorem bs_drew {w W : World} {oe ox oy : Obj} {k1 k2 : Nat} {x : Edt} {Ax Gx Ay Gy : Option Addr} (h : BS w oe k1 ox k2 oy x Ax Gx Ay Gy W) : BS w oe k1 ox k2 oy x Ax Gx Ay Gy W.drew :=
  bs_step h (Below.refl _ _).drew
theorem bs_cells {w W : World} {k1 k2 : Nat} {x : Edt} {Ax Gx Ay Gy : Option Addr} {e0 e1 e2 e3 e4 x0 x1 x2 x3 x4 y0 y1 y2 y3 y4 : Value} {te tx ty : TypeId}
    (h : BS w (.cells #[e0, e1, e2, e3, e4] te (0, 0)) k1 (.cells #[x0, x1, x2, x3, x4] tx (0, 0)) k2 (.cells #[y0, y1, y2, y3, y4] ty (0, 0)) x Ax Gx Ay Gy W) :
    W.cell? ⟨w.heap.size, 0, none⟩ = some e0 ∧ W.cell? ⟨w.heap.size, 1, none⟩ = some e1 ∧ W.cell? ⟨w.heap.size, 2, none⟩ = some e2 ∧ W.cell? ⟨w.heap.size, 3, none⟩ = some e3 ∧ W.cell? ⟨w.heap.size, 4, none⟩ = some e4 ∧
    W.cell? ⟨k1, 0, none⟩ = some x0 ∧ W.cell? ⟨k1, 1, none⟩ = some x1 ∧ W.cell? ⟨k1, 2, none⟩ = some x2 ∧ W.cell? ⟨k1, 3, none⟩ = some x3 ∧ W.cell? ⟨k1, 4, none⟩ = some x4 ∧
    W.cell? ⟨k2, 0, none⟩ = some y0 ∧ W.cell? ⟨k2, 1, none⟩ = some y1 ∧ W.cell? ⟨k2, 2, none⟩ = some y2 ∧ W.cell? ⟨k2, 3, none⟩ = some y3 ∧ W.cell? ⟨k2, 4, none⟩ = some y4 := by
  obtain ⟨a0, a1, a2, a3, a4⟩ := on_box h.on
  obtain ⟨⟨b0, b1, b2, b3, b4⟩, _⟩ := cells5 h.bx
  obtain ⟨⟨c0, c1, c2, c3, c4⟩, _⟩ := cells5 h.by'
  exact ⟨a0, a1, a2, a3, a4, b0, b1, b2, b3, b4, c0, c1, c2, c3, c4⟩
theorem bs_below {w W : World} {oe ox oy : Obj} {k1 k2 : Nat} {x : Edt} {Ax Gx Ay Gy : Option Addr} (h : BS w oe k1 ox k2 oy x Ax Gx Ay Gy W) : Below w.heap.size w W := on_below h.on
theorem bs_start {w w6 w7 : World} {oe ox : Obj} (oy : Obj) {x : Edt} {Ax Gx Ay Gy : Option Addr} (h6 : On w oe w6) (lx : Lies w6 x Ax Gx) (b7 : Below (w6.alloc ox).heap.size (w6.alloc ox) w7) (ly : Lies w7 x Ay Gy) :
    BS w oe w6.heap.size ox w7.heap.size oy x Ax Gx Ay Gy (w7.alloc oy) := by
  have hn : Below w7.heap.size w7 (w7.alloc oy) := (Below.refl _ _).alloc (Nat.le_refl _) _
  have h7 : On w oe w7 := on_step (on_alloc h6 ox) b7
  have hs := b7.size
  have hz : (w6.alloc ox).heap.size = w6.heap.size + 1 := by simp
  refine ⟨on_alloc h7 oy, ?_, heap_alloc_new _ _, ((lies_alloc lx ox).on b7).on hn, ly.on hn⟩
  rw [hn.block _ (by omega), b7.block _ (by omega)]
  exact heap_alloc_new _ _
set_option maxHeartbeats 8000000 in
set_option maxRecDepth 100000 in
theorem bytes_light {w : World} {e : Edt} {A G : Option Addr} {c d : Nat} {s : ByteArray} (H : Lies w e A G) (ht : Tab w) (h1 : okE e) (hs : s.size ≤ 5000) :
    Calls Tryd.prog 5 #[e.val A c G d, .string s] w (BoPost w true) := by
  obtain ⟨x, err, hp, hx, _⟩ := parse_ways s.data.toList
  obtain ⟨L, hB, hR⟩ := bytes_both e
  have hel : e.come.length ≤ 100000 ∧ e.go.length ≤ 100000 := by
    obtain ⟨_, h2⟩ := h1
    omega
  have hlen : x.come.length ≤ 100000 ∧ x.go.length ≤ 100000 := by
    obtain ⟨k1, k2, _, _⟩ := chkE_ok.1 hx
    omega
  have AW := Lib.hid fun (W : World) (h : Below w.heap.size w W) => awake_any W (ht.on h)
  have LA := Lib.hid fun (W : World) (h : Below w.heap.size w W) => light_yes c d (H.on h) h1
  have BA := Lib.hid fun (W : World) (h : Below w.heap.size w W) => hB W A G c d (H.on h)
  have TE := Lib.hid fun (W : World) (h : Below w.heap.size w W) => to_any c d (H.on h) hel.1 hel.2
  have RB := Lib.hid fun (W : World) (A1 G1 : Option Addr) (c1 d1 : Nat) (h : Lies W e A1 G1) => hR W A1 G1 c1 d1 h
  have CK := Lib.hid fun (W : World) (h : Below w.heap.size w W) => checkE_any c d (H.on h)
  have RC := Lib.hid fun (W : World) (A1 G1 : Option Addr) (c1 d1 : Nat) (h : Lies W e A1 G1) => rcheck_any c1 d1 h
  have PS := Lib.hid (parse_at s (by omega) hp)
  have QS := Lib.hid (qparse_at s (by omega) hp)
  have TX := Lib.hid fun (W : World) (A1 G1 : Option Addr) (c1 d1 : Nat) (h : Lies W x A1 G1) => to_any c1 d1 h hlen.1 hlen.2
  have SM := Lib.hid fun (W : World) (A1 G1 A2 G2 : Option Addr) (c1 d1 c2 d2 : Nat) (h : Lies W x A1 G1) (h2 : Lies W x A2 G2) => rsame_yes (c := c1) (d := d1) (c2 := c2) (d2 := d2) h h2 hlen.1 hlen.2
  have e3 : decide (5000 < (s.size : Int)) = false := decide_eq_false (by omega)
  have hss : ((bs L).toList == (bs L).toList) = true := beq_self_eq_true _
  clear H ht h1 hx hel hlen hB hR hp
  generalize chkE e = z at *
  obtain ⟨log, next, seq, come, go⟩ := e
  obtain ⟨xl, xn, xq, xc, xg⟩ := x
  unfold PrPost ToPost Edt.val at *
  simp only at *
  have W0 : Hid (Below w.heap.size w (w.alloc (.cells #[.int .u64 log, .int .u64 next, .int .u64 seq, .slice A come.length c, .slice G go.length d] 31 (0, 0)))) := (Below.refl _ _).alloc (Nat.le_refl _) _
  go_enter Tryd.func5, Tryd.ntmps5
  go_wp2_with (first
    | (go_at_call 17; have Z := F6; (with_reducible refine (QS.out _).mono ?_); rintro e w7 ⟨Ay, cy, Gy, dy, rfl, l7, b7⟩; have B0 := Lib.hid (bs_start (rBox5 xl xn xq (.slice Ay xc.length cy) (.slice Gy xg.length dy)) F6.out L6.out b7 l7); clear l7 b7)
    | (go_at_call 13; have Z := F5; (with_reducible refine (PS.out _).mono ?_); rintro e w6 ⟨Ax, cx, Gx, dx, rfl, l6, b6⟩; have F6 := Lib.hid (on_step F5.out b6); have L6 := Lib.hid l6; clear l6 b6)
    | (go_at_call 16; (with_reducible refine (RB.out _ _ _ _ _ L4.out).mono ?_); rintro e w5 ⟨rfl, b5⟩; have F5 := Lib.hid (on_step F4.out b5); clear b5)
    | (go_at_call 15; (with_reducible refine (TE.out _ (on_below F3.out)).mono ?_); rintro e w4 ⟨A4, c4, G4, d4, rfl, l4, b4⟩; have F4 := Lib.hid (on_step F3.out b4); have L4 := Lib.hid l4; clear l4 b4)
    | (go_at_call 12; (with_reducible refine (BA.out _ (on_below F2.out)).mono ?_); rintro e w3 ⟨rfl, b3⟩; have F3 := Lib.hid (on_step F2.out b3); obtain ⟨g0, g1, g2, g3, g4⟩ := on_box F3.out; clear b3)
    | (go_at_call 11; (with_reducible refine (LA.out _ (on_below F1.out)).mono ?_); rintro e w2 ⟨rfl, b2⟩; have F2 := Lib.hid (on_step F1.out b2); obtain ⟨f0, f1, f2, f3, f4⟩ := on_box F2.out; clear b2)
    | (go_at_call 6; (with_reducible refine (AW.out _ W0.out).mono ?_); rintro e w1 ⟨rfl, b1⟩; have F1 := Lib.hid (on_start b1); obtain ⟨a0, a1, a2, a3, a4⟩ := on_box F1.out; clear b1))
  go_region_held_law (fun wx => wx.cell? ⟨w.heap.size, 0, none⟩ = some (.int .u64 log) ∧ wx.cell? ⟨w.heap.size, 1, none⟩ = some (.int .u64 next) ∧ wx.cell? ⟨w.heap.size, 2, none⟩ = some (.int .u64 seq) ∧ wx.cell? ⟨w.heap.size, 3, none⟩ = some (.slice A come.length c) ∧ wx.cell? ⟨w.heap.size, 4, none⟩ = some (.slice G go.length d) ∧ wx.cell? ⟨w6.heap.size, 0, none⟩ = some (.int .u64 xl) ∧ wx.cell? ⟨w6.heap.size, 1, none⟩ = some (.int .u64 xn) ∧ wx.cell? ⟨w6.heap.size, 2, none⟩ = some (.int .u64 xq) ∧ wx.cell? ⟨w6.heap.size, 3, none⟩ = some (.slice Ax xc.length cx) ∧ wx.cell? ⟨w6.heap.size, 4, none⟩ = some (.slice Gx xg.length dx) ∧ wx.cell? ⟨w7.heap.size, 0, none⟩ = some (.int .u64 xl) ∧ wx.cell? ⟨w7.heap.size, 1, none⟩ = some (.int .u64 xn) ∧ wx.cell? ⟨w7.heap.size, 2, none⟩ = some (.int .u64 xq) ∧ wx.cell? ⟨w7.heap.size, 3, none⟩ = some (.slice Ay xc.length cy) ∧ wx.cell? ⟨w7.heap.size, 4, none⟩ = some (.slice Gy xg.length dy))
    (first | exact bs_cells B0.out | exact bs_cells B1.out | exact bs_cells B2.out | exact bs_cells B3.out | exact bs_cells B4.out | exact bs_cells B5.out | exact bs_cells (bs_drew B0.out) | exact bs_cells (bs_drew B1.out))
    (first
      | (go_at_call 20; have Z := B4; (with_reducible refine (SM.out _ _ _ _ _ _ _ _ _ L12.out B4.out.ly).mono ?_); rintro e w13 ⟨rfl, b13⟩; have B5 := Lib.hid (by first | exact bs_step B4.out b13 | exact bs_step (bs_drew B4.out) b13); clear b13)
      | (go_at_call 15; have Z := B3; (with_reducible refine (TX.out _ _ _ _ _ B3.out.lx).mono ?_); rintro e w12 ⟨A12, c12, G12, d12, rfl, l12, b12⟩; have B4 := Lib.hid (by first | exact bs_step B3.out b12 | exact bs_step (bs_drew B3.out) b12); have L12 := Lib.hid l12; clear l12 b12)
      | (go_at_call 19; have Z := B2; (with_reducible refine (RC.out _ _ _ _ _ L10.out).mono ?_); rintro e w11 ⟨rfl, b11⟩; have B3 := Lib.hid (by first | exact bs_step B2.out b11 | exact bs_step (bs_drew B2.out) b11); clear b11)
      | (go_at_call 15; have Z := B1; (with_reducible refine (TE.out _ (bs_below B1.out)).mono ?_); rintro e w10 ⟨A10, c10, G10, d10, rfl, l10, b10⟩; have B2 := Lib.hid (by first | exact bs_step B1.out b10 | exact bs_step (bs_drew B1.out) b10); have L10 := Lib.hid l10; clear l10 b10)
      | (go_at_call 18; (with_reducible first | refine (CK.out _ (bs_below B0.out)).mono ?_ | refine (CK.out _ (bs_below (bs_drew B0.out))).mono ?_); rintro e w9 ⟨rfl, b9⟩; have B1 := Lib.hid (by first | exact bs_step B0.out b9 | exact bs_step (bs_drew B0.out) b9); clear b9))
  all_goals
    go_wp2
    go_ret
    exact ⟨rfl, bs_below B5.out⟩
end Go.Proofs.YtomokbcamfmfcaaDoor.Ed
