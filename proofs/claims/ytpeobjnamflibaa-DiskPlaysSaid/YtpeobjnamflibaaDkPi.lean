/-
  The law DiskPlays walked: it returns true. Conditions: as each theorem states.
-/
import Derived.Test.YtpeobjnamflibaaDkPh
namespace Go.Proofs.Ytpeobjnamflibaa.Dk
open Go.RowKit
theorem new_ok0 (n : Int) (room : Int) (h0 : 0 ≤ room) (h1 : room ≤ 16777216) : Ok ⟨[], room, 0, -1, -1, false⟩ 0 := ⟨h0, h1, by show (0 : Int) ≤ 0; omega, by show (0 : Int) ≤ 0; omega, by show (-1 : Int) ≤ -1; omega, by show (-1 : Int) ≤ _; omega, by show (-1 : Int) ≤ -1; omega, by show (-1 : Int) ≤ _; omega⟩
/-- a round of the law's loop -/
def PRel (w : World) (d m q N : Nat) (iv : Value) (wr : World) : Prop :=
  ∃ (k : Nat) (v : Value) (L : List Ent) (R : List RFile) (S : Sta), iv = .int .i64 k ∧ k ≤ N ∧ Bo wr d m L q v R S ∧ Ok S k ∧ Lo w.heap.size d m L q v ∧ Below w.heap.size w wr
theorem start_rel {w w1 w2 w3 : World} {room : Int} {N : Nat} (h0 : 0 ≤ room) (h1 : room ≤ 16777216) (b1 : Below w.heap.size w w1)
    (hd : DiskAt w2 (w1.heap.size + 1) w1.heap.size [] room 0 (-1) (-1) false) (b2 : Below w1.heap.size w1 w2)
    (hq : RefAt w3 w2.heap.size (.slice none 0 0) [] room 0 (-1) (-1) false) (b3 : Below w2.heap.size w2 w3) : PRel w (w1.heap.size + 1) w1.heap.size w2.heap.size N (.int .i64 0) w3 := by
  have hz1 := b1.size
  have hz2 := b2.size
  have hdlt := hd.lt (w1.heap.size + 1) (by simp [feet])
  refine ⟨0, _, [], [], ⟨[], room, 0, -1, -1, false⟩, rfl, Nat.zero_le _, ⟨⟨hd.below b3, hq, fun k hk hr => ?_⟩, rfl, rfl⟩, new_ok0 0 room h0 h1, ⟨fun k hk => ?_, fun k hk => ?_⟩, b1.trans ((b2.trans (b3.mono hz2)).mono hz1)⟩
  · simp [feet] at hk
    simp [rfeet, Value.ownBlock] at hr
    omega
  · simp [feet] at hk
    omega
  · simp [rfeet, Value.ownBlock] at hk
    omega
set_option maxRecDepth 100000 in
theorem plays_bad {w : World} {A : Option Addr} {c : Nat} {l : List DAct} (room : Int) (h : room < 0 ∨ 16777216 < room) :
    Calls Try.prog 3 #[.int .i64 room, .slice A l.length c] w fun e w' => e = .returned (.bool true) ∧ Below w.heap.size w w' := by
  have H := Lib.hid h
  clear h
  go_enter Try.func3, Try.ntmps3
  go_wp2_with (first
    | (go_at_call 4; (refine (awake_disk _).mono ?_); rintro e w1 ⟨rfl, b1⟩)
    | (go_at_call 5; (refine (new_bad room H.out _).mono ?_); rintro e w2 ⟨rfl, rfl⟩)
    | (go_at_call 6; (refine (rnew_bad H.out).mono ?_); rintro e w3 ⟨rfl, rfl⟩))
  go_ret
  exact ⟨rfl, b1⟩
set_option maxRecDepth 100000 in
theorem plays_long {w : World} {A : Option Addr} {c : Nat} {l : List DAct} (room : Int) (h0 : 0 ≤ room) (h1 : room ≤ 16777216) (hl : l.length ≤ 9223372036854775807) (hl2 : 40 < l.length) :
    Calls Try.prog 3 #[.int .i64 room, .slice A l.length c] w fun e w' => e = .returned (.bool true) ∧ Below w.heap.size w w' := by
  go_enter Try.func3, Try.ntmps3
  go_wp2_with (first
    | (go_at_call 4; (refine (awake_disk _).mono ?_); rintro e w1 ⟨rfl, b1⟩)
    | (go_at_call 5; (refine (new_any room h0 h1 _).mono ?_); rintro e w2 ⟨rfl, hd, b2⟩; clear hd)
    | (go_at_call 6; (refine (rnew_any h0 h1).mono ?_); rintro e w3 ⟨rfl, hq, b3⟩; clear hq))
  go_ret
  exact ⟨rfl, b1.trans ((b2.trans (b3.mono b2.size)).mono b1.size)⟩
set_option maxRecDepth 100000 in
set_option maxHeartbeats 1000000 in
theorem plays_main {w : World} {A : Option Addr} {c : Nat} {l : List DAct} (room : Int) (h0 : 0 ≤ room) (h1 : room ≤ 16777216) (hl : l.length ≤ 40) (RA : DRow w A l) :
    Calls Try.prog 3 #[.int .i64 room, .slice A l.length c] w fun e w' => e = .returned (.bool true) ∧ Below w.heap.size w w' := by
  have HRA := Lib.hid RA
  clear RA
  go_enter Try.func3, Try.ntmps3
  go_wp2_with (first
    | (go_at_call 4; (refine (awake_disk _).mono ?_); rintro e w1 ⟨rfl, b1⟩)
    | (go_at_call 5; (refine (new_any room h0 h1 _).mono ?_); rintro e w2 ⟨rfl, hd, b2⟩; have HD := Lib.hid hd; clear hd)
    | (go_at_call 6; (refine (rnew_any h0 h1).mono ?_); rintro e w3 ⟨rfl, hq, b3⟩; have HQ := Lib.hid hq; clear hq))
  have HP := Lib.hid (start_rel (N := l.length) h0 h1 b1 HD.out b2 HQ.out b3)
  clear HD HQ b1 b2 b3
  generalize w1.heap.size + 1 = d at *
  generalize w1.heap.size = m at *
  generalize w2.heap.size = q at *
  go_loopw [48] (PRel w d m q l.length) (fun i _ => l.length - (intOf i).toNat)
  case atStart => exact HP.out
  case round =>
    obtain ⟨k, v, L, R, S, rfl, hk, hB, hO, hLo, hbw⟩ := hrel
    have HB := Lib.hid hB
    have HX := Lib.hid (And.intro hO (And.intro hLo hbw))
    clear hB hO hLo hbw
    by_cases hlt : k < l.length
    · obtain ⟨a, rfl, hab, hc⟩ := HRA.out (by omega)
      obtain ⟨⟨c0, c1, c2, c3, c4, c5⟩, k1, k2, k3, k4, k5, fates, hf1, hf2⟩ := hc k hlt
      have hbl : (a.add (k * 6)).block < w.heap.size := by rw [add_block]; exact hab
      have key : ∀ j, wr.cell? ⟨(a.add (k * 6)).block, (a.add (k * 6)).off + j, none⟩ = w.cell? ⟨(a.add (k * 6)).block, (a.add (k * 6)).off + j, none⟩ := fun j => HX.out.2.2.cell (p := ⟨(a.add (k * 6)).block, (a.add (k * 6)).off + j, none⟩) hbl
      replace c0 := (HX.out.2.2.cell (p := a.add (k * 6)) hbl).trans c0
      replace c1 := (key 1).trans c1
      replace c2 := (key 2).trans c2
      replace c3 := (key 3).trans c3
      replace c4 := (key 4).trans c4
      replace c5 := (key 5).trans c5
      clear key hc
      generalize l[k] = x at *
      obtain ⟨xk, xa, xb, xs, xn, xfa, xfl, xfc⟩ := x
      have HF := Lib.hid (And.intro hf1 hf2)
      have HK := Lib.hid (And.intro k1 (And.intro k2 (And.intro k3 (And.intro k4 k5))))
      clear hf1 hf2 k1 k2 k3 k4 k5
      have hz : w.heap.size ≤ wr.heap.size := HX.out.2.2.size
      by_cases hli : DAct.light ⟨xk, xa, xb, xs, xn, xfa, xfl, xfc⟩ = true
      · have HLI := Lib.hid hli
        clear hli
        have hcn := World.cell?_alloc_new wr #[Value.int IntKind.i64 xk, Value.string xa, Value.string xb, Value.string xs, Value.int IntKind.i64 xn, Value.slice xfa xfl xfc] 32
        have hsz : wr.heap.size < (wr.alloc (Obj.cells #[Value.int IntKind.i64 xk, Value.string xa, Value.string xb, Value.string xs, Value.int IntKind.i64 xn, Value.slice xfa xfl xfc] 32)).heap.size := by simp
        have HA := Lib.hid (show Below wr.heap.size wr (wr.alloc (Obj.cells #[Value.int IntKind.i64 xk, Value.string xa, Value.string xb, Value.string xs, Value.int IntKind.i64 xn, Value.slice xfa xfl xfc] 32)) from (Below.refl _ _).alloc (Nat.le_refl _) _)
        go_wp2_with (first
          | (go_at_call 7; (refine (light_any ⟨xk, xa, xb, xs, xn, xfa, xfl, xfc⟩ HK.out.1 HK.out.2.1 HK.out.2.2.1 HK.out.2.2.2.1 _).mono ?_); rintro e w4 ⟨rfl, b4⟩; rw [HLI.out]
             have e0 := (b4.cell (p := ⟨wr.heap.size, 0, none⟩) hsz).trans (hcn 0)
             have e1 := (b4.cell (p := ⟨wr.heap.size, 1, none⟩) hsz).trans (hcn 1)
             have e2 := (b4.cell (p := ⟨wr.heap.size, 2, none⟩) hsz).trans (hcn 2)
             have e3 := (b4.cell (p := ⟨wr.heap.size, 3, none⟩) hsz).trans (hcn 3)
             have e4 := (b4.cell (p := ⟨wr.heap.size, 4, none⟩) hsz).trans (hcn 4)
             have e5 := (b4.cell (p := ⟨wr.heap.size, 5, none⟩) hsz).trans (hcn 5)
             have HA4 := Lib.hid (HA.out.trans (b4.mono HA.out.size)); clear b4)
          | (go_at_call 8
             refine (do_any (HB.out.below HA4.out) HX.out.1 (by omega) HX.out.2.1 (Nat.le_trans hz HA4.out.size) ⟨xk, xa, xb, xs, xn, xfa, xfl, xfc⟩ HLI.out HK.out.2.2.2.2 fates (fates_below HF.out.1 HF.out.2 (HX.out.2.2.trans (HA4.out.mono hz))) HF.out.2).mono ?_
             rintro e w5 ⟨rfl, L2, v2, R2, S2, hB2, hO2, hlo2, hb2⟩
             have HB2 := Lib.hid hB2
             have HX2 := Lib.hid (And.intro hO2 (And.intro hlo2 ((HX.out.2.2.trans (HA4.out.mono hz)).trans hb2)))
             clear hB2 hO2 hlo2 hb2)
          | (go_at_call 9
             refine (same_any HB2.out).mono ?_
             rintro e w6 ⟨rfl, b6⟩
             have HB6 := Lib.hid (HB2.out.below b6)
             have HX6 := Lib.hid (And.intro HX2.out.1 (And.intro HX2.out.2.1 (HX2.out.2.2.trans (b6.mono HX2.out.2.2.size))))))
        go_roundw
        case rel => exact ⟨k + 1, v2, L2, R2, S2, by go_num, by omega, HB6.out, HX6.out.1, HX6.out.2.1, HX6.out.2.2⟩
        case measure => simp [intOf]; omega
      · have HLI := Lib.hid (show DAct.light ⟨xk, xa, xb, xs, xn, xfa, xfl, xfc⟩ = false by simpa using hli)
        clear hli
        go_wp2_with (first
          | (go_at_call 7; (refine (light_any ⟨xk, xa, xb, xs, xn, xfa, xfl, xfc⟩ HK.out.1 HK.out.2.1 HK.out.2.2.1 HK.out.2.2.2.1 _).mono ?_); rintro e w4 ⟨rfl, b4⟩; rw [HLI.out]))
        go_ret
        exact ⟨rfl, HX.out.2.2.trans ((((Below.refl _ _).alloc (Nat.le_refl _) _).trans (b4.mono (by simp))).mono hz)⟩
    · obtain rfl : k = l.length := by omega
      go_wp2
      go_ret
      exact ⟨rfl, HX.out.2.2⟩
end Go.Proofs.Ytpeobjnamflibaa.Dk
