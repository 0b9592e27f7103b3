/-
  Both disks held against one another: Same, walked. Conditions: as each theorem states.
-/
import Derived.Test.YtpeobjnamflibaaDkPd
namespace Go.Proofs.Ytpeobjnamflibaa.Dk
open Go.RowKit Go.Maps
section
variable {w w2 : World} {d m q : Nat} {v : Value} {L : List Ent} {R : List RFile} {S : Sta} {n : Int}
theorem ref25 {w : World} {q : Nat} {v : Value} {room steps fuse fault : Int} {down : Bool} (h : RefIs w q v room steps fuse fault down) : w.cell? ⟨q, 2, none⟩ = some (.int .i64 steps) ∧ w.cell? ⟨q, 5, none⟩ = some (.bool down) := ⟨cell_in h 2 _ rfl, cell_in h 5 _ rfl⟩
theorem same_used (h : Bo w d m L q v R S) : usedR R = usedL L := (agree_used (h.hL.trans h.hR.symm)).symm
theorem row_below {w w2 : World} {b e k N : Nat} {x : Value} {xs : List Value} (h : w.ownsRow b e k x N xs) (hb : Below w.heap.size w w2) : w2.ownsRow b e k x N xs := ownsRow_kept h (fun g hg => hb.block g (ownsRow_lt h hg))
theorem keep25 {W W' : World} {q : Nat} {steps : Int} {down : Bool} (hb : Below W.heap.size W W') (hc : W.cell? ⟨q, 2, none⟩ = some (.int .i64 steps) ∧ W.cell? ⟨q, 5, none⟩ = some (.bool down)) : W'.cell? ⟨q, 2, none⟩ = some (.int .i64 steps) ∧ W'.cell? ⟨q, 5, none⟩ = some (.bool down) := by
  have hl : q < W.heap.size := by
    rcases Nat.lt_or_ge q W.heap.size with h | h
    · exact h
    · have := hc.1; unfold World.cell? at this; rw [Array.getElem?_eq_none h] at this; simp at this
  exact ⟨(hb.cell (p := ⟨q, 2, none⟩) hl).trans hc.1, (hb.cell (p := ⟨q, 5, none⟩) hl).trans hc.2⟩
theorem listI_eq (R : List RFile) : (listI R).length = R.length := by
  have := (listI_perm _ R rfl).length_eq
  rwa [List.length_map] at this
def LRel (w5 : World) (N : Nat) (iv : Value) (wr : World) : Prop := ∃ k : Nat, k ≤ N ∧ iv = .int .i64 k ∧ Below w5.heap.size w5 wr
theorem list_here (h : Bo w d m L q v R S) {k : Nat} (hk : k < (listI R).length) : (∃ t ∈ S.T, t.1 = (listI R)[k].data.toList) ∧ (listI R)[k].size ≤ 32 := by
  have hm : (listI R)[k] ∈ listI R := List.getElem_mem _
  have hx := (mem_rk h.hR).1 (mem_listI.1 hm)
  obtain ⟨e, he, hn⟩ := (mem_ek h.hL).2 hx
  have hs := h.pa.dk.short e he
  rw [hn, Array.length_toList] at hs
  exact ⟨hx, hs⟩
set_option maxRecDepth 100000 in
theorem same_any (h : Bo w d m L q v R S) :
    Calls Try.prog 9 #[.pointer (some ⟨d, 0, none⟩), .pointer (some ⟨q, 0, none⟩)] w fun r w' => r = .returned (.bool true) ∧ Below w.heap.size w w' := by
  have hqw : q < w.heap.size := (Array.getElem?_eq_some_iff.1 h.pa.rf.ref).1
  have cq := ref25 h.pa.rf.ref
  have H := Lib.hid h
  have hue := same_used h
  obtain ⟨U, hU⟩ : ∃ U, usedL L = U := ⟨_, rfl⟩
  rw [hU] at hue
  have HU := Lib.hid (And.intro hU hue)
  obtain ⟨T, room, steps, fuse, fault, down⟩ := S
  change w.cell? ⟨q, 2, none⟩ = some (.int .i64 steps) ∧ w.cell? ⟨q, 5, none⟩ = some (.bool down) at cq
  obtain ⟨cq2, cq5⟩ := cq
  clear h hU hue
  go_enter Try.func9, Try.ntmps9
  go_wp2_with (first
    | (go_at_call 27; refine (list_two H.out.da H.out.hR).mono ?_; rintro r w1 ⟨v1, rfl, hrow1, hb1⟩
       have HR1 := Lib.hid hrow1; clear hrow1
       have k2 := (hb1.cell (p := ⟨q, 2, none⟩) hqw).trans cq2
       have k5 := (hb1.cell (p := ⟨q, 5, none⟩) hqw).trans cq5
       have hz1 := hb1.size))
  have HB1 := Lib.hid (H.out.below hb1)
  have hqw1 : q < w1.heap.size := Nat.lt_of_lt_of_le hqw hz1
  have hll : (listI R).length ≤ 9223372036854775807 := by have h1 := H.out.pa.rf.few; rw [listI_eq]; omega
  have HLL := Lib.hid hll
  clear hll
  go_region_held3 (fun wx => wx.cell? ⟨q, 2, none⟩ = some (.int .i64 steps) ∧ wx.cell? ⟨q, 5, none⟩ = some (.bool down)) (first | go_keep | (refine keep25 ‹Below _ _ _› ?_; assumption))
    (first
      | (go_at_call 29; refine (rlist_any (HB1.out.below (Below.refl _ _).drew).pa.rf).mono ?_; rintro r w2 ⟨v2, rfl, hrow2, hb2⟩
         have HB2 := Lib.hid ((HB1.out.below (Below.refl _ _).drew).below hb2)
         have HR2 := Lib.hid (And.intro (row_below (row_below HR1.out (Below.refl _ _).drew) hb2) hrow2); clear hrow2)
      | (go_at_call 28; refine (rows_equal HR2.out.1 HR2.out.2 HLL.out).mono ?_; rintro r w3 ⟨rfl, hb3⟩
         have HB3 := Lib.hid (HB2.out.below hb3))
      | (go_at_call 30; refine (used_any HB3.out.pa.dk).mono ?_; rintro r w4 ⟨rfl, hb4⟩
         have HB4 := Lib.hid (HB3.out.below hb4)
         rw [HU.out.1])
      | (go_at_call 31; refine (rused_any HB4.out.pa.rf).mono ?_; rintro r w5 ⟨rfl, hb5⟩
         have HB5 := Lib.hid (HB4.out.below hb5)
         rw [HU.out.2])
      | (go_at_call 32; refine (steps_any HB5.out.pa.dk).mono ?_; rintro r w6 ⟨rfl, rfl⟩)
      | (go_at_call 33; refine (down_any HB5.out.pa.dk).mono ?_; rintro r w7 ⟨rfl, rfl⟩))
  clear k2 k5 cq2 cq5 hqw hqw1 hz1
  obtain ⟨a1, c1, hv1⟩ := row_slice HR2.out.1
  subst hv1
  go_wp2
  have HRw := Lib.hid (row_below (row_below (row_below (row_below HR2.out.1 hb3) hb4) hb5) (Below.refl _ _))
  have hbw : Below w.heap.size w w5 := (((hb1.trans (((Below.refl _ w1).drew.trans hb2).mono hb1.size)).trans (hb3.mono (Nat.le_trans hb1.size hb2.size))).trans (hb4.mono (Nat.le_trans (Nat.le_trans hb1.size hb2.size) hb3.size))).trans (hb5.mono (Nat.le_trans (Nat.le_trans (Nat.le_trans hb1.size hb2.size) hb3.size) hb4.size))
  have HBW := Lib.hid hbw
  clear HR1 HR2 hb1 hb2 hb3 hb4 hb5 hbw HB1 HB2 HB3 HB4
  go_loopw [46] (LRel w5 (listI R).length) (fun i _ => (listI R).length - (intOf i).toNat)
  case atStart => exact ⟨0, by omega, rfl, Below.refl _ _⟩
  case round =>
    obtain ⟨k, hk, rfl, hb⟩ := hrel
    have HB := Lib.hid hb
    have hbig := HLL.out
    by_cases hlt : k < (listI R).length
    · have hrow := row_below HRw.out hb
      rcases hrow.2 with ⟨_, hn⟩ | ⟨g, cap, cur, hva, _⟩
      · omega
      obtain ⟨hx, hsz⟩ := list_here H.out hlt
      obtain ⟨b, code, hP, hQ⟩ := read_two { T := T, room := room, steps := steps, fuse := fuse, fault := fault, down := down } (listI R)[k] (Lib.hid (by unfold maxLen; omega))
      obtain ⟨lo, hlP, hlQ⟩ := loose_two { T := T, room := room, steps := steps, fuse := fuse, fault := fault, down := down } (listI R)[k] (Lib.hid (by unfold maxLen; omega)) hx
      have hc := hrow.cells (g := g) (by rw [hva]; rfl) k (.string (listI R)[k]) (by simp [sv, hlt])
      have hc' : (‹World›).cell? ⟨g, k, none⟩ = some (.string (listI R)[k]) := by
        by_cases h0 : k = 0
        · subst h0; simpa [Addr.add] using hc
        · simpa [Addr.add, h0] using hc
      clear hc
      injection hva with hv1 hv2 hv3
      clear hv2
      subst hv1 hv3
      have HP := Lib.hid (And.intro @hP @hQ)
      have HL := Lib.hid (And.intro @hlP @hlQ)
      clear hP hQ hlP hlQ hrow hx hsz
      obtain ⟨nm, hnm⟩ : ∃ nm, (listI R)[k] = nm := ⟨_, rfl⟩
      rw [hnm] at hc' HP HL
      clear hnm
      go_wp2_with (first
        | (go_at_call 12; refine (HP.out.1 (H.out.below (HBW.out.trans (HB.out.mono HBW.out.size))).da).mono ?_; rintro r w6 ⟨rfl, rfl⟩)
        | (go_at_call 21; refine (HP.out.2 (H.out.below (HBW.out.trans (HB.out.mono HBW.out.size))).ra).mono ?_; rintro r w7 ⟨rfl, hb7⟩
           have HW7 := Lib.hid (HB.out.trans (hb7.mono HB.out.size)))
        | (go_at_call 34; refine (HL.out.1 (H.out.below (HBW.out.trans (HW7.out.mono HBW.out.size))).da).mono ?_; rintro r w8 ⟨rfl, hb8⟩
           have HW8 := Lib.hid (HW7.out.trans (hb8.mono HW7.out.size)))
        | (go_at_call 35; refine (HL.out.2 (H.out.below (HBW.out.trans (HW8.out.mono HBW.out.size))).ra).mono ?_; rintro r w9 ⟨rfl, hb9⟩
           have HW9 := Lib.hid (HW8.out.trans (hb9.mono HW8.out.size))))
      go_roundw
      case rel => exact ⟨k + 1, by omega, by go_num, HW9.out⟩
      case measure => simp [intOf]; omega
    · obtain rfl : k = (listI R).length := by omega
      go_wp2
      go_ret
      exact ⟨rfl, HBW.out.trans (HB.out.mono HBW.out.size)⟩
end
end Go.Proofs.Ytpeobjnamflibaa.Dk
