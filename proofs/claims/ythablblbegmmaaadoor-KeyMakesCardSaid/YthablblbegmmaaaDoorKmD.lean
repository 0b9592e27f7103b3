/-
  The document's own keys, walked: which row stands ahead. Conditions: as each theorem states.
-/
import Derived.Test.YthablblbegmmaaaDoorKmC
import Derived.Deep.RegionHeldLaw
namespace Go.Proofs.YthablblbegmmaaaDoor
open Go.RowKit
open Vi

theorem cmpI_self (x : Int) : cmpI x x = 0 := cmpI_eq (by omega) (by omega)
theorem cmpI_neg {x y : Int} (h : ¬ x = y) : ¬ cmpI x y = 0 ∧ decide (cmpI x y < 0) = decide (x < y) := by
  by_cases h1 : x < y
  · rw [cmpI_lt h1]; simp [h1]
  · rw [cmpI_gt (by omega)]; simp [h1]
theorem cmpS_self (x : List UInt8) : cmpS x x = 0 := by unfold cmpS; rw [bl_irrefl]; simp
theorem cmpS_neg {x y : List UInt8} (h : ¬ x = y) : ¬ cmpS x y = 0 ∧ decide (cmpS x y < 0) = Op.bytesLess x y := by
  unfold cmpS
  by_cases h1 : Op.bytesLess x y = true
  · rw [if_pos h1, h1]; simp
  · rw [if_neg h1, if_neg h]; simp at h1; rw [h1]; simp
section
variable {a b : List KPart} {sx sy : Nat} {nx ny : Int} {ux uy : Nat} {tx ty : ByteArray}
theorem pl_sort (h : ¬ sx = sy) : pless (⟨sx, nx, ux, tx⟩ :: a) (⟨sy, ny, uy, ty⟩ :: b) = decide (sx < sy) := by
  have e : pcmp ⟨sx, nx, ux, tx⟩ ⟨sy, ny, uy, ty⟩ = cmpI sx sy := if_neg h
  have h2 := cmpI_neg (x := (sx : Int)) (y := (sy : Int)) (by omega)
  rw [pless_off (by rw [e]; exact h2.1), e, h2.2]
  exact decide_eq_decide.2 (by omega)
theorem pl_i (h : ¬ nx = ny) : pless (⟨105, nx, ux, tx⟩ :: a) (⟨105, ny, uy, ty⟩ :: b) = decide (nx < ny) := by
  have e : pcmp ⟨105, nx, ux, tx⟩ ⟨105, ny, uy, ty⟩ = cmpI nx ny := rfl
  rw [pless_off (by rw [e]; exact (cmpI_neg h).1), e, (cmpI_neg h).2]
theorem pl_d (h : ¬ nx = ny) : pless (⟨100, nx, ux, tx⟩ :: a) (⟨100, ny, uy, ty⟩ :: b) = decide (ny < nx) := by
  have e : pcmp ⟨100, nx, ux, tx⟩ ⟨100, ny, uy, ty⟩ = cmpI ny nx := rfl
  have h' : ¬ ny = nx := fun e => h e.symm
  rw [pless_off (by rw [e]; exact (cmpI_neg h').1), e, (cmpI_neg h').2]
theorem pl_u (h : ¬ ux = uy) : pless (⟨117, nx, ux, tx⟩ :: a) (⟨117, ny, uy, ty⟩ :: b) = decide (ux < uy) := by
  have e : pcmp ⟨117, nx, ux, tx⟩ ⟨117, ny, uy, ty⟩ = cmpI ux uy := rfl
  have h2 := cmpI_neg (x := (ux : Int)) (y := (uy : Int)) (by omega)
  rw [pless_off (by rw [e]; exact h2.1), e, h2.2]
  exact decide_eq_decide.2 (by omega)
theorem pl_t (h : ¬ tx = ty) : pless (⟨116, nx, ux, tx⟩ :: a) (⟨116, ny, uy, ty⟩ :: b) = Op.bytesLess tx.toList ty.toList := by
  rw [Lib.toList_data, Lib.toList_data]
  have e : pcmp ⟨116, nx, ux, tx⟩ ⟨116, ny, uy, ty⟩ = cmpS tx.data.toList ty.data.toList := rfl
  have h' : ¬ tx.data.toList = ty.data.toList := fun e => h (by rw [← bs_of tx, ← bs_of ty, e])
  rw [pless_off (by rw [e]; exact (cmpS_neg h').1), e, (cmpS_neg h').2]
theorem pl_oi : pless (⟨105, nx, ux, tx⟩ :: a) (⟨105, nx, uy, ty⟩ :: b) = pless a b := pless_on (x := ⟨105, nx, ux, tx⟩) (y := ⟨105, nx, uy, ty⟩) (cmpI_self nx) a b
theorem pl_od : pless (⟨100, nx, ux, tx⟩ :: a) (⟨100, nx, uy, ty⟩ :: b) = pless a b := pless_on (x := ⟨100, nx, ux, tx⟩) (y := ⟨100, nx, uy, ty⟩) (cmpI_self nx) a b
theorem pl_ou : pless (⟨117, nx, ux, tx⟩ :: a) (⟨117, ny, ux, ty⟩ :: b) = pless a b := pless_on (x := ⟨117, nx, ux, tx⟩) (y := ⟨117, ny, ux, ty⟩) (cmpI_self (ux : Int)) a b
theorem pl_ot : pless (⟨116, nx, ux, tx⟩ :: a) (⟨116, ny, uy, tx⟩ :: b) = pless a b := pless_on (x := ⟨116, nx, ux, tx⟩) (y := ⟨116, ny, uy, tx⟩) (cmpS_self tx.data.toList) a b
theorem pl_on (h1 : ¬ sx = 105) (h2 : ¬ sx = 100) (h3 : ¬ sx = 117) (h4 : ¬ sx = 116) : pless (⟨sx, nx, ux, tx⟩ :: a) (⟨sx, ny, uy, ty⟩ :: b) = pless a b :=
  pless_on (by unfold pcmp; rw [if_pos rfl, if_neg h1, if_neg h2, if_neg h3, if_neg h4]) a b
end
set_option maxRecDepth 100000 in
set_option maxHeartbeats 8000000 in
theorem rless_any {w : World} (A B : Option Addr) (c d : Nat) (la lb : List KPart) (hla : la.length ≤ 1000) (hlb : lb.length ≤ 1000) (ha : PRow w A la) (hb : PRow w B lb) :
    Calls Tryd.prog 14 #[.slice A la.length c, .slice B lb.length d] w fun e w' => e = .returned (.bool (pless la lb)) ∧ Below w.heap.size w w' := by
  have HA := Lib.hid ha
  have HB := Lib.hid hb
  clear ha hb
  go_enter Tryd.func14, Tryd.ntmps14
  go_wp2
  go_loopw [5] (LsJ w la lb) (fun i _ => min la.length lb.length - (intOf i).toNat)
  case atStart => exact ⟨0, by omega, by omega, rfl, rfl, Below.refl _ _⟩
  case round =>
    obtain ⟨j, hja, hjb, hg, rfl, hb⟩ := hrel
    have HG := Lib.hid hg
    clear hg
    by_cases h1 : j < la.length
    · by_cases h2 : j < lb.length
      · obtain ⟨a, rfl, hab, hca⟩ := HA.out (by omega)
        obtain ⟨b, rfl, hbb, hcb⟩ := HB.out (by omega)
        obtain ⟨x0, x1, x2, x3⟩ := (hca j h1).keep (w' := wr) fun q hq => hb.cell (by rw [hq, block_add]; exact hab)
        obtain ⟨y0, y1, y2, y3⟩ := (hcb j h2).keep (w' := wr) fun q hq => hb.cell (by rw [hq, block_add]; exact hbb)
        have hda : la.drop j = la[j] :: la.drop (j + 1) := List.drop_eq_getElem_cons h1
        have hdb : lb.drop j = lb[j] :: lb.drop (j + 1) := List.drop_eq_getElem_cons h2
        rw [hda, hdb] at HG
        clear hca hcb hda hdb
        generalize la[j] = x at *
        generalize lb[j] = y at *
        obtain ⟨sx, nx, ux, tx⟩ := x
        obtain ⟨sy, ny, uy, ty⟩ := y
        simp only at x0 x1 x2 x3 y0 y1 y2 y3
        have n0 := World.new_ne wr _ x0
        have n1 := World.new_ne wr _ y0
        go_wp2
        go_region_held_law (fun wx => wx.cell? (a.add (j * 4)) = some (.int .u8 sx) ∧ wx.cell? ⟨(a.add (j * 4)).block, (a.add (j * 4)).off + 1, none⟩ = some (.int .i64 nx) ∧ wx.cell? ⟨(a.add (j * 4)).block, (a.add (j * 4)).off + 2, none⟩ = some (.int .u64 ux) ∧ wx.cell? ⟨(a.add (j * 4)).block, (a.add (j * 4)).off + 3, none⟩ = some (.string tx) ∧ wx.cell? (b.add (j * 4)) = some (.int .u8 sy) ∧ wx.cell? ⟨(b.add (j * 4)).block, (b.add (j * 4)).off + 1, none⟩ = some (.int .i64 ny) ∧ wx.cell? ⟨(b.add (j * 4)).block, (b.add (j * 4)).off + 2, none⟩ = some (.int .u64 uy) ∧ wx.cell? ⟨(b.add (j * 4)).block, (b.add (j * 4)).off + 3, none⟩ = some (.string ty)) (go_keep) (fail)
        all_goals
          clear x0 x1 x2 x3 y0 y1 y2 y3 n0 n1
          by_cases hs : sx = sy
          · subst hs
            by_cases c1 : sx = 105
            · subst c1
              by_cases hn : nx = ny
              · subst hn
                go_wp2
                go_roundw
                case rel => exact ⟨j + 1, by omega, by omega, by rw [← HG.out, pl_oi], by go_num, ((hb.alloc hb.size _).alloc (by have := hb.size; simp; omega) _).drew⟩
                case measure => simp [intOf]; omega
              · have hnb : (nx == ny) = false := by simpa using hn
                go_wp2
                go_ret
                exact ⟨ret_bool (by rw [← HG.out, pl_i hn]), ((hb.alloc hb.size _).alloc (by have := hb.size; simp; omega) _).drew⟩
            · have k1 : ((sx : Int) == 105) = false := by simp; omega
              by_cases c2 : sx = 100
              · subst c2
                by_cases hn : nx = ny
                · subst hn
                  go_wp2
                  go_roundw
                  case rel => exact ⟨j + 1, by omega, by omega, by rw [← HG.out, pl_od], by go_num, ((hb.alloc hb.size _).alloc (by have := hb.size; simp; omega) _).drew⟩
                  case measure => simp [intOf]; omega
                · have hnb : (nx == ny) = false := by simpa using hn
                  go_wp2
                  go_ret
                  exact ⟨ret_bool (by rw [← HG.out, pl_d hn]), ((hb.alloc hb.size _).alloc (by have := hb.size; simp; omega) _).drew⟩
              · have k2 : ((sx : Int) == 100) = false := by simp; omega
                by_cases c3 : sx = 117
                · subst c3
                  by_cases hn : ux = uy
                  · subst hn
                    go_wp2
                    go_roundw
                    case rel => exact ⟨j + 1, by omega, by omega, by rw [← HG.out, pl_ou], by go_num, ((hb.alloc hb.size _).alloc (by have := hb.size; simp; omega) _).drew⟩
                    case measure => simp [intOf]; omega
                  · have hnb : ((ux : Int) == (uy : Int)) = false := by simp; omega
                    go_wp2
                    go_ret
                    exact ⟨ret_bool (by rw [← HG.out, pl_u hn]), ((hb.alloc hb.size _).alloc (by have := hb.size; simp; omega) _).drew⟩
                · have k3 : ((sx : Int) == 117) = false := by simp; omega
                  by_cases c4 : sx = 116
                  · subst c4
                    by_cases hn : tx = ty
                    · subst hn
                      go_wp2
                      go_roundw
                      case rel => exact ⟨j + 1, by omega, by omega, by rw [← HG.out, pl_ot], by go_num, ((hb.alloc hb.size _).alloc (by have := hb.size; simp; omega) _).drew⟩
                      case measure => simp [intOf]; omega
                    · have hnb : (tx.toList == ty.toList) = false := by
                        rw [Lib.toList_data, Lib.toList_data]; simpa using fun e => hn (by rw [← bs_of tx, ← bs_of ty, e])
                      go_wp2
                      go_ret
                      exact ⟨ret_bool (by rw [← HG.out, pl_t hn]), ((hb.alloc hb.size _).alloc (by have := hb.size; simp; omega) _).drew⟩
                  · have k4 : ((sx : Int) == 116) = false := by simp; omega
                    go_wp2
                    go_roundw
                    case rel => exact ⟨j + 1, by omega, by omega, by rw [← HG.out, pl_on c1 c2 c3 c4], by go_num, ((hb.alloc hb.size _).alloc (by have := hb.size; simp; omega) _).drew⟩
                    case measure => simp [intOf]; omega
          · have hsb : ((sx : Int) == (sy : Int)) = false := by simp; omega
            go_wp2
            go_ret
            exact ⟨ret_bool (by rw [← HG.out, pl_sort hs]), ((hb.alloc hb.size _).alloc (by have := hb.size; simp; omega) _).drew⟩
      · go_wp2
        go_ret
        refine ⟨ret_bool ?_, hb⟩
        rw [← HG.out, pless_len (by simp; omega), List.length_drop, List.length_drop]
        refine decide_eq_decide.2 ?_
        omega
    · go_wp2
      go_ret
      refine ⟨ret_bool ?_, hb⟩
      rw [← HG.out, pless_len (by simp; omega), List.length_drop, List.length_drop]
      refine decide_eq_decide.2 ?_
      omega
end Go.Proofs.YthablblbegmmaaaDoor
