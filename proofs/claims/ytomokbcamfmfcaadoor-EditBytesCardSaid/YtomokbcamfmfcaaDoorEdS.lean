/-
  The document's own edits, walked: Same. Conditions: as each theorem states.
-/
import Derived.Test.YtomokbcamfmfcaaDoorEdQ
namespace Go.Proofs.YtomokbcamfmfcaaDoor.Ed
open Go.RowKit
open Go.Proofs.YtomokbcamfmfcaaDoor
open Vi Ba

theorem rneq_fil (a : Fil) (w : World) : (binOp .neq 85 (.agg #[.int .i64 a.level, .int .u64 a.number, .int .u64 a.size, .int .u64 a.count, .string a.least, .string a.most]) (.agg #[.int .i64 a.level, .int .u64 a.number, .int .u64 a.size, .int .u64 a.count, .string a.least, .string a.most])).run Tryd.prog w = .ok (.bool false) w := by
  go_simp
theorem rneq_gon (a : Gon) (w : World) : (binOp .neq 86 (.agg #[.int .i64 a.level, .int .u64 a.number]) (.agg #[.int .i64 a.level, .int .u64 a.number])).run Tryd.prog w = .ok (.bool false) w := by
  go_simp
def LsRel (W : World) (k : Nat) (i : Value) (wr : World) : Prop := ∃ j : Nat, j ≤ k ∧ i = .int .i64 (j : Nat) ∧ Below W.heap.size W wr
theorem below_drew {B : Nat} {w w' : World} (h : Below B w w') : Below B w w'.drew := h.drew
set_option maxHeartbeats 4000000 in
set_option maxRecDepth 100000 in
theorem rsame_yes {w : World} {a : Edt} {A A2 G G2 : Option Addr} {c c2 d d2 : Nat} (ha : Lies w a A G) (hb : Lies w a A2 G2) (h1 : a.come.length ≤ 100000) (h2 : a.go.length ≤ 100000) :
    Calls Tryd.prog 20 #[a.val A c G d, a.val A2 c2 G2 d2] w (BoPost w true) := by
  obtain ⟨log, next, seq, come, go⟩ := a
  have RA := Lib.hid ha.a
  have RA2 := Lib.hid hb.a
  have RG := Lib.hid ha.g
  have RG2 := Lib.hid hb.g
  clear ha hb
  unfold Edt.val
  simp only at *
  go_enter Tryd.func20, Tryd.ntmps20
  go_wp2
  go_loopw [47] (LsRel ((w.alloc (.cells #[.int .u64 log, .int .u64 next, .int .u64 seq, .slice A come.length c, .slice G go.length d] 44 (0, 0))).alloc (.cells #[.int .u64 log, .int .u64 next, .int .u64 seq, .slice A2 come.length c2, .slice G2 go.length d2] 44 (0, 0))) come.length) (fun i _ => come.length - (intOf i).toNat)
  case atStart => exact ⟨0, by omega, rfl, Below.refl _ _⟩
  case round =>
    obtain ⟨j, hj, rfl, hbw⟩ := hrel
    obtain ⟨⟨b0, b1, b2, b3, b4⟩, b5, b6, b7, b8, b9⟩ := alloc2_cells5 hbw
    have B0 := Lib.hid hbw
    clear hbw
    by_cases hlt : j < come.length
    · obtain ⟨a, rfl, hab, hca⟩ := (RA.out.on (two_below B0.out)) (by omega)
      obtain ⟨x0, x1, x2, x3, x4, x5⟩ := hca j hlt
      obtain ⟨a2, rfl, hab2, hca2⟩ := (RA2.out.on (two_below B0.out)) (by omega)
      obtain ⟨y0, y1, y2, y3, y4, y5⟩ := hca2 j hlt
      clear hca hca2
      have hnp := rneq_fil come[j]
      generalize come[j] = y at *
      go_wp2
      go_region
      all_goals go_wp2
      all_goals exact ⟨⟨j + 1, by omega, by go_num, by first | exact B0.out | exact B0.out.drew⟩, by simp [intOf]; omega⟩
    · go_wp2
      go_loopw [65] (LsRel ((w.alloc (.cells #[.int .u64 log, .int .u64 next, .int .u64 seq, .slice A come.length c, .slice G go.length d] 44 (0, 0))).alloc (.cells #[.int .u64 log, .int .u64 next, .int .u64 seq, .slice A2 come.length c2, .slice G2 go.length d2] 44 (0, 0))) go.length) (fun i _ => go.length - (intOf i).toNat)
      case atStart => exact ⟨0, by omega, rfl, B0.out⟩
      case round =>
        clear b0 b1 b2 b3 b4 b5 b6 b7 b8 b9 B0 hlt hj
        obtain ⟨j, hj, rfl, hbw⟩ := hrel
        obtain ⟨⟨b0, b1, b2, b3, b4⟩, b5, b6, b7, b8, b9⟩ := alloc2_cells5 hbw
        have B0 := Lib.hid hbw
        clear hbw
        by_cases hlt : j < go.length
        · obtain ⟨a, rfl, hab, hca⟩ := (RG.out.on (two_below B0.out)) (by omega)
          obtain ⟨x0, x1⟩ := hca j hlt
          obtain ⟨a2, rfl, hab2, hca2⟩ := (RG2.out.on (two_below B0.out)) (by omega)
          obtain ⟨y0, y1⟩ := hca2 j hlt
          clear hca hca2
          have hnp := rneq_gon go[j]
          generalize go[j] = y at *
          go_wp2
          go_region
          all_goals go_wp2
          all_goals exact ⟨⟨j + 1, by omega, by go_num, by first | exact B0.out | exact B0.out.drew⟩, by simp [intOf]; omega⟩
        · go_wp2
          go_ret
          exact ⟨rfl, two_below B0.out⟩
end Go.Proofs.YtomokbcamfmfcaaDoor.Ed
