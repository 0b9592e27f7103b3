/-
  The law EditBack walked, where all is light. Conditions: as each theorem states.
-/
import Derived.Test.YtomokbcamfmfcaaDoorEdO
namespace Go.Proofs.YtomokbcamfmfcaaDoor.Ed
open Go.RowKit
open Go.Proofs.YtomokbcamfmfcaaDoor
open Vi Ba

set_option maxHeartbeats 4000000 in
set_option maxRecDepth 100000 in
theorem back_eq {w : World} {a b : Edt} {A A2 G G2 : Option Addr} {c c2 d d2 : Nat} {s : ByteArray} (ha : Lies w a A G) (hb : Lies w b A2 G2) (ht : Tab w) (h1 : okE a) (h2 : okE b) (hs : s.size ≤ 5000) (hc : chkE a = 0) (hc2 : chkE b = 0) (hab : a = b) :
    Calls Tryd.prog 4 #[a.val A c G d, b.val A2 c2 G2 d2, .string s] w (BoPost w true) := by
  obtain ⟨x, err, hp, hx, hway⟩ := parse_ways s.data.toList
  have AW := Lib.hid fun (W : World) (h : Below w.heap.size w W) => awake_any W (ht.on h)
  have LA := Lib.hid fun (W : World) (h : Below w.heap.size w W) => light_yes c d (ha.on h) h1
  have LB := Lib.hid fun (W : World) (h : Below w.heap.size w W) => light_yes c2 d2 (hb.on h) h2
  have BA := Lib.hid fun (W : World) (h : Below w.heap.size w W) => ebytes_ok c d (ha.on h) hc
  have BB := Lib.hid fun (W : World) (h : Below w.heap.size w W) => ebytes_ok c2 d2 (hb.on h) hc2
  have htl := eb_len ha.ok hc
  have PT := Lib.hid fun (W : World) => parse_at (x := a) (err := 0) (bs (eb a)) (by rw [bs_size]; omega) (by rw [bs_toList]; exact parse_eb ha.ok hc) W
  have hal : a.come.length ≤ 100000 ∧ a.go.length ≤ 100000 := by
    obtain ⟨k1, k2, _, _⟩ := chkE_ok.1 hc
    omega
  have hbl2 : b.come.length ≤ 100000 ∧ b.go.length ≤ 100000 := by
    obtain ⟨k1, k2, _, _⟩ := chkE_ok.1 hc2
    omega
  have SX := Lib.hid fun (W : World) (Ax Gx : Option Addr) (cx dx : Nat) (h : Lies W a Ax Gx) (h2 : Below w.heap.size w W) => same_yes (c := cx) (d := dx) (c2 := c) (d2 := d) h (ha.on h2) hal.1 hal.2
  have SS : Hid (∀ (W : World), Below w.heap.size w W → Calls Tryd.prog 14 #[a.val A c G d, b.val A2 c2 G2 d2] W (BoPost W true)) := fun W h => by
    have := same_yes (c := c) (d := d) (c2 := c2) (d2 := d2) (ha.on h) (A2 := A2) (G2 := G2) (by rw [hab]; exact hb.on h) hal.1 hal.2
    unfold Edt.val at *
    rw [← hab]
    exact this
  have hte : eb a = eb b := by rw [hab]
  generalize hta : eb a = ta at *
  generalize htb : eb b = tb at *
  clear hta htb
  subst hte
  have hse : (ta == ta) = true := beq_self_eq_true _
  have PS := Lib.hid (parse_at s (by omega) hp)
  have BX := Lib.hid fun (W : World) (Ax Gx : Option Addr) (cx dx : Nat) (h : Lies W x Ax Gx) => ebytes_ok cx dx h hx
  have hbl := bs_list
  have hlen : x.come.length ≤ 100000 ∧ x.go.length ≤ 100000 := by
    obtain ⟨k1, k2, _, _⟩ := chkE_ok.1 hx
    omega
  have e3 : decide (5000 < (s.size : Int)) = false := decide_eq_false (by omega)
  rcases hway with ⟨rfl, hX⟩ | ⟨he, rfl⟩
  · have BX : Hid (∀ (W : World) (Ax Gx : Option Addr) (cx dx : Nat), Lies W x Ax Gx → Calls Tryd.prog 12 #[x.val Ax cx Gx dx] W fun e w' => e = .returned (.tuple #[.string s, .int .i64 0]) ∧ Below W.heap.size W w') := fun W Ax Gx cx dx h => by
      have := BX.out W Ax Gx cx dx h
      rw [hX] at this
      exact this.mono fun e w' ⟨h1, h2⟩ => ⟨by rw [h1, bs_of], h2⟩
    have hss : (s.toList == s.toList) = true := beq_self_eq_true _
    clear hX hp hx hlen ha hb ht h1 h2 hc hc2 htl hal hbl2 hab
    obtain ⟨al, an, aq, ac, ag⟩ := a
    obtain ⟨bl, bn, bq, bc, bg⟩ := b
    obtain ⟨xl, xn, xq, xc, xg⟩ := x
    unfold PrPost Edt.val at *
    simp only at *
    have hon := Lib.hid (two_on w)
    go_enter Tryd.func4, Tryd.ntmps4
    go_wp2_with (first
      | (go_at_call 12; have Z := F9; (with_reducible refine (BX.out _ _ _ _ _ L9.out).mono ?_); rintro e w10 ⟨rfl, b10⟩; have F10 := Lib.hid (two_trans F9.out b10); have L10 := Lib.hid (L9.out.on b10); obtain ⟨n0, n1, n2, n3, n4⟩ := box_on b10; clear b10)
      | (go_at_call 13; have Z := F8; (with_reducible refine (PS.out _).mono ?_); rintro e w9 ⟨Ay, cy, Gy, dy, rfl, l9, b9⟩; have L9 := Lib.hid (lies_alloc l9 (eObj xl xn xq (.slice Ay xc.length cy) (.slice Gy xg.length dy))); have F9 := Lib.hid (two_alloc (two_trans F8.out b9) (eObj xl xn xq (.slice Ay xc.length cy) (.slice Gy xg.length dy))); obtain ⟨⟨m0, m1, m2, m3, m4⟩, m5⟩ := cells5 (heap_alloc_new w9 (eObj xl xn xq (.slice Ay xc.length cy) (.slice Gy xg.length dy))); clear l9 b9)
      | (go_at_call 14; have Z := F7; (with_reducible refine (SS.out _ (two_below F7.out)).mono ?_); rintro e w8 ⟨rfl, b8⟩; have F8 := Lib.hid (two_trans F7.out b8); clear b8)
      | (go_at_call 12; have Z := F6; (with_reducible refine (BB.out _ (two_below F6.out)).mono ?_); rintro e w7 ⟨rfl, b7⟩; have F7 := Lib.hid (two_trans F6.out b7); obtain ⟨⟨k0, k1, k2, k3, k4⟩, k5, k6, k7, k8, k9⟩ := alloc2_cells5 F7.out; clear b7)
      | (go_at_call 14; (with_reducible refine (SX.out _ _ _ _ _ L5.out (two_below F5.out)).mono ?_); rintro e w6 ⟨rfl, b6⟩; have F6 := Lib.hid (two_trans F5.out b6); obtain ⟨⟨h0, h1, h2, h3, h4⟩, h5, h6, h7, h8, h9⟩ := alloc2_cells5 F6.out; clear b6)
      | (go_at_call 13; (with_reducible refine (PT.out _).mono ?_); rintro e w5 ⟨Ax, cx, Gx, dx, rfl, l5, b5⟩; have L5 := Lib.hid (lies_alloc l5 (eObj al an aq (.slice Ax ac.length cx) (.slice Gx ag.length dx))); have F5 := Lib.hid (two_alloc (two_trans F4.out b5) (eObj al an aq (.slice Ax ac.length cx) (.slice Gx ag.length dx))); obtain ⟨⟨f0, f1, f2, f3, f4⟩, f5, f6, f7, f8, f9⟩ := alloc2_cells5 F5.out; obtain ⟨⟨g0, g1, g2, g3, g4⟩, g5⟩ := cells5 (heap_alloc_new w5 (eObj al an aq (.slice Ax ac.length cx) (.slice Gx ag.length dx))); clear l5 b5)
      | (go_at_call 12; (with_reducible refine (BA.out _ (two_below F3.out)).mono ?_); rintro e w4 ⟨rfl, b4⟩; have F4 := Lib.hid (two_trans F3.out b4); obtain ⟨⟨e0, e1, e2, e3, e4⟩, e5, e6, e7, e8, e9⟩ := alloc2_cells5 F4.out; clear b4)
      | (go_at_call 11; have Z := F2; (with_reducible refine (LB.out _ (two_below F2.out)).mono ?_); rintro e w3 ⟨rfl, b3⟩; have F3 := Lib.hid (two_trans F2.out b3); obtain ⟨⟨d0, d1, d2x, d3, d4⟩, d5, d6, d7, d8, d9⟩ := alloc2_cells5 F3.out; clear b3)
      | (go_at_call 11; (with_reducible refine (LA.out _ (two_below F1.out)).mono ?_); rintro e w2 ⟨rfl, b2⟩; have F2 := Lib.hid (two_trans F1.out b2); obtain ⟨⟨c0, c1, c2x, c3, c4⟩, c5, c6, c7, c8, c9⟩ := alloc2_cells5 F2.out; clear b2)
      | (go_at_call 6; (with_reducible refine (AW.out _ (hon.out _ _)).mono ?_); rintro e w1 ⟨rfl, b1⟩; have F1 := Lib.hid b1; obtain ⟨⟨a0, a1, a2, a3, a4⟩, a5, a6, a7, a8, a9⟩ := alloc2_cells5 b1; clear b1))
    go_ret
    exact ⟨rfl, two_below F10.out⟩
  · have SN : Hid (∀ (W : World) (Ax Gx : Option Addr) (cx dx : Nat), Lies W Edt.none Ax Gx → Calls Tryd.prog 14 #[.agg #[.int .u64 0, .int .u64 0, .int .u64 0, .slice Ax 0 cx, .slice Gx 0 dx], .agg #[.int .u64 0, .int .u64 0, .int .u64 0, .slice none 0 0, .slice none 0 0]] W (BoPost W true)) := fun W Ax Gx cx dx h => none_same W Ax Gx cx dx h
    have BX : Hid (∀ (W : World) (Ax Gx : Option Addr) (cx dx : Nat), Lies W Edt.none Ax Gx → Calls Tryd.prog 12 #[.agg #[.int .u64 0, .int .u64 0, .int .u64 0, .slice Ax 0 cx, .slice Gx 0 dx]] W (EbPost W (eb Edt.none) 0)) := fun W Ax Gx cx dx h => none_bytes W Ax Gx cx dx h
    have PS : Hid (∀ (W : World), Calls Tryd.prog 13 #[.string s] W fun e w' => ∃ A c G d, e = .returned (.tuple #[.agg #[.int .u64 0, .int .u64 0, .int .u64 0, .slice A 0 c, .slice G 0 d], .int .i64 err]) ∧ Lies w' Edt.none A G ∧ Below W.heap.size W w') := fun W => none_parse W (PS.out W)
    have he2 : (err != 0) = true := by simp [bne, he]
    clear hp hx hlen ha hb ht h1 h2 hc hc2 htl hal hbl2 hab
    obtain ⟨al, an, aq, ac, ag⟩ := a
    obtain ⟨bl, bn, bq, bc, bg⟩ := b
    unfold PrPost Edt.val at *
    simp only at *
    have hon := Lib.hid (two_on w)
    go_enter Tryd.func4, Tryd.ntmps4
    go_wp2_with (first
      | (go_at_call 14; have Z := F10; (with_reducible refine (SN.out _ _ _ _ _ L10.out).mono ?_); rintro e w11 ⟨rfl, b11⟩; have F11 := Lib.hid (two_trans F10.out b11); clear b11)
      | (go_at_call 12; have Z := F9; (with_reducible refine (BX.out _ _ _ _ _ L9.out).mono ?_); rintro e w10 ⟨rfl, b10⟩; have F10 := Lib.hid (two_trans F9.out b10); have L10 := Lib.hid (L9.out.on b10); obtain ⟨n0, n1, n2, n3, n4⟩ := box_on b10; clear b10)
      | (go_at_call 13; have Z := F8; (with_reducible refine (PS.out _).mono ?_); rintro e w9 ⟨Ay, cy, Gy, dy, rfl, l9, b9⟩; have L9 := Lib.hid (lies_alloc l9 (eObj0 (.slice Ay 0 cy) (.slice Gy 0 dy))); have F9 := Lib.hid (two_alloc (two_trans F8.out b9) (eObj0 (.slice Ay 0 cy) (.slice Gy 0 dy))); obtain ⟨⟨m0, m1, m2, m3, m4⟩, m5⟩ := cells5 (heap_alloc_new w9 (eObj0 (.slice Ay 0 cy) (.slice Gy 0 dy))); clear l9 b9)
      | (go_at_call 14; have Z := F7; (with_reducible refine (SS.out _ (two_below F7.out)).mono ?_); rintro e w8 ⟨rfl, b8⟩; have F8 := Lib.hid (two_trans F7.out b8); clear b8)
      | (go_at_call 12; have Z := F6; (with_reducible refine (BB.out _ (two_below F6.out)).mono ?_); rintro e w7 ⟨rfl, b7⟩; have F7 := Lib.hid (two_trans F6.out b7); obtain ⟨⟨k0, k1, k2, k3, k4⟩, k5, k6, k7, k8, k9⟩ := alloc2_cells5 F7.out; clear b7)
      | (go_at_call 14; (with_reducible refine (SX.out _ _ _ _ _ L5.out (two_below F5.out)).mono ?_); rintro e w6 ⟨rfl, b6⟩; have F6 := Lib.hid (two_trans F5.out b6); obtain ⟨⟨h0, h1, h2, h3, h4⟩, h5, h6, h7, h8, h9⟩ := alloc2_cells5 F6.out; clear b6)
      | (go_at_call 13; (with_reducible refine (PT.out _).mono ?_); rintro e w5 ⟨Ax, cx, Gx, dx, rfl, l5, b5⟩; have L5 := Lib.hid (lies_alloc l5 (eObj al an aq (.slice Ax ac.length cx) (.slice Gx ag.length dx))); have F5 := Lib.hid (two_alloc (two_trans F4.out b5) (eObj al an aq (.slice Ax ac.length cx) (.slice Gx ag.length dx))); obtain ⟨⟨f0, f1, f2, f3, f4⟩, f5, f6, f7, f8, f9⟩ := alloc2_cells5 F5.out; obtain ⟨⟨g0, g1, g2, g3, g4⟩, g5⟩ := cells5 (heap_alloc_new w5 (eObj al an aq (.slice Ax ac.length cx) (.slice Gx ag.length dx))); clear l5 b5)
      | (go_at_call 12; (with_reducible refine (BA.out _ (two_below F3.out)).mono ?_); rintro e w4 ⟨rfl, b4⟩; have F4 := Lib.hid (two_trans F3.out b4); obtain ⟨⟨e0, e1, e2, e3, e4⟩, e5, e6, e7, e8, e9⟩ := alloc2_cells5 F4.out; clear b4)
      | (go_at_call 11; have Z := F2; (with_reducible refine (LB.out _ (two_below F2.out)).mono ?_); rintro e w3 ⟨rfl, b3⟩; have F3 := Lib.hid (two_trans F2.out b3); obtain ⟨⟨d0, d1, d2x, d3, d4⟩, d5, d6, d7, d8, d9⟩ := alloc2_cells5 F3.out; clear b3)
      | (go_at_call 11; (with_reducible refine (LA.out _ (two_below F1.out)).mono ?_); rintro e w2 ⟨rfl, b2⟩; have F2 := Lib.hid (two_trans F1.out b2); obtain ⟨⟨c0, c1, c2x, c3, c4⟩, c5, c6, c7, c8, c9⟩ := alloc2_cells5 F2.out; clear b2)
      | (go_at_call 6; (with_reducible refine (AW.out _ (hon.out _ _)).mono ?_); rintro e w1 ⟨rfl, b1⟩; have F1 := Lib.hid b1; obtain ⟨⟨a0, a1, a2, a3, a4⟩, a5, a6, a7, a8, a9⟩ := alloc2_cells5 b1; clear b1))
    go_ret
    exact ⟨rfl, two_below F11.out⟩
end Go.Proofs.YtomokbcamfmfcaaDoor.Ed
