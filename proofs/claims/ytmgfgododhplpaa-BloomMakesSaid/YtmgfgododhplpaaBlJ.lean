/-
  The document's filter, as truths, walked. Conditions: as each theorem states.
-/
import Derived.Test.YtmgfgododhplpaaBlI
namespace Go.Proofs.Ytmgfgododhplpaa.Bl
open Go.RowKit
open Crc (ret_int val_int)

theorem bits_neg (n : Int) (hn : n ≤ 0) (w : World) :
    Calls Try.prog 11 #[.int .i64 n] w fun e w' => e = .returned (.int .i64 64) ∧ w = w' := by
  have hm : max n 0 = 0 := by omega
  go_enter Try.func11, Try.ntmps11
  go_wp2
  all_goals
    go_ret
    exact ⟨ret_int (by omega), rfl⟩
/-- The least number from n on that eight divides. -/
def up8 (n : Nat) : Nat := (n + 7) / 8 * 8
theorem bitsOf_up (n : Nat) : bitsOf n = up8 (if 6 < n then 10 * n else 64) := by
  unfold bitsOf up8
  split <;> omega
theorem rbits_any (n : Nat) (hn : n ≤ 100000000) (w : World) :
    Calls Try.prog 12 #[.int .i64 n] w fun e w' => e = .returned (.int .i64 (bitsOf n)) ∧ w = w' := by
  rw [bitsOf_up]
  obtain ⟨m, hm⟩ : ∃ m, m = if 6 < n then 10 * n else 64 := ⟨_, rfl⟩
  rw [← hm]
  have HM := Lib.hid hm
  have hml : m ≤ 1000000000 := by rw [hm]; split <;> omega
  clear hm
  by_cases h6 : 6 < n
  · have em : (10 : Int) * (n : Int) = (m : Int) := by rw [HM.out, if_pos h6]; simp
    go_enter Try.func12, Try.ntmps12
    go_wp2
    go_loop [3] (fun x => ∃ k : Nat, m ≤ k ∧ k ≤ up8 m ∧ x = .int .i64 k) (fun x => up8 m - (intOf x).toNat)
    case atStart => exact ⟨m, Nat.le_refl _, by unfold up8; omega, rfl⟩
    case round =>
      obtain ⟨k, hk1, hk2, rfl⟩ := hrel
      have hu : up8 m ≤ m + 7 := by unfold up8; omega
      by_cases h8 : k % 8 = 0
      · have hk : k = up8 m := by unfold up8 at *; omega
        have t1 : ((k : Int) % 8 != 0) = false := by rw [bne_eq_false_iff_eq]; omega
        go_wp2
        go_ret
        exact ⟨rfl, rfl⟩
      · have hk : k < up8 m := by unfold up8 at *; omega
        have t1 : ((k : Int) % 8 != 0) = true := by rw [bne_iff_ne]; omega
        go_wp2
        go_round
        case rel => exact ⟨k + 1, by omega, by omega, by go_num⟩
        case measure => simp [intOf]; omega
  · have em : m = 64 := by rw [HM.out, if_neg h6]
    subst em
    have hu : up8 64 = 64 := by decide
    rw [hu]
    go_enter Try.func12, Try.ntmps12
    go_wp2
    go_loop [3] (fun x => x = .int .i64 64) (fun x => 1)
    case atStart => rfl
    case round =>
      subst hrel
      go_wp2
      go_ret
      exact ⟨rfl, rfl⟩
theorem rbits_neg (n : Int) (hn : n ≤ 0) (w : World) :
    Calls Try.prog 12 #[.int .i64 n] w fun e w' => e = .returned (.int .i64 64) ∧ w = w' := by
  go_enter Try.func12, Try.ntmps12
  go_wp2
  go_loop [3] (fun x => x = .int .i64 64) (fun x => 1)
  case atStart => rfl
  case round =>
    subst hrel
    go_wp2
    go_ret
    exact ⟨rfl, rfl⟩
theorem truths_mark (F : List UInt8) (p : Nat) (hp : p < F.length * 8) : truths (mark F p) = (truths F).set p true := by
  apply List.ext_getElem?
  intro q
  by_cases hq : q < F.length * 8
  · rw [truths_at _ q (by rw [mark_len]; exact hq), has_mark F p q (by omega), List.getElem?_set]
    by_cases e : p = q
    · subst e; simp [truths_len, hp]
    · rw [if_neg e, truths_at F q hq]
      have : decide (q = p) = false := by simp; exact fun h => e h.symm
      rw [this, Bool.false_or]
  · rw [List.getElem?_eq_none (by rw [truths_len, mark_len]; omega), List.getElem?_eq_none (by rw [List.length_set, truths_len]; omega)]
theorem truths_zero (n : Nat) : truths (List.replicate n 0) = List.replicate (n * 8) false := by
  apply List.ext_getElem?
  intro q
  by_cases hq : q < n * 8
  · rw [truths_at _ q (by simpa using hq), has_zero, List.getElem?_replicate, if_pos hq]
  · rw [List.getElem?_eq_none (by rw [truths_len]; simpa using hq), List.getElem?_eq_none (by simpa using hq)]
/-- block b of the world holds the truths l, and may be written -/
def HoldsT (w : World) (b : Nat) (l : List Bool) : Prop := b < w.heap.size ∧ ∀ q (h : q < l.length), w.cell? ⟨b, q, none⟩ = some (.bool l[q]) ∧ w.frozen? ⟨b, q, none⟩ = false
theorem holdsT_set {w : World} {b : Nat} {l : List Bool} (h : HoldsT w b l) {i : Nat} (u : Bool) (hi : i < l.length) :
    HoldsT (w.setCell ⟨b, i, none⟩ (.bool u)) b (l.set i u) := by
  refine ⟨by simpa using h.1, fun q hq => ?_⟩
  have hq' : q < l.length := by simpa using hq
  obtain ⟨h1, h2⟩ := h.2 q hq'
  by_cases e : q = i
  · subst e
    refine ⟨?_, by rw [World.frozen?_setCell]; exact h2⟩
    rw [World.cell?_setCell_same w _ _ h1]
    simp
  · refine ⟨?_, by rw [World.frozen?_setCell]; exact h2⟩
    rw [World.cell?_setCell_other w _ _ _ (by intro h; injection h with _ h _; exact e h.symm), h1, List.getElem_set_ne (Ne.symm e)]
theorem holdsT_below {B : Nat} {w w' : World} {b : Nat} {l : List Bool} (h : HoldsT w b l) (hb : Below B w w') (hB : b < B) : HoldsT w' b l :=
  ⟨Nat.lt_of_lt_of_le h.1 hb.size, fun q hq => ⟨(hb.cell (p := ⟨b, q, none⟩) hB).trans (h.2 q hq).1, (hb.frozen (p := ⟨b, q, none⟩) hB).trans (h.2 q hq).2⟩⟩
theorem made_truths (w : World) (n : Nat) (hn : n ≤ 1000000) : ∃ w', (Instr.makeSlice 25 (.int .i64 (n : Int)) (.int .i64 (n : Int))).run Try.prog w = .ok (.slice (some ⟨w.heap.size, 0, none⟩) n n) w' ∧ HoldsT w' w.heap.size (List.replicate n false) ∧ Below w.heap.size w w' := by
  cases hq : Try.prog.info? 4 with
  | none => have := infoBool; rw [hq] at this; simp at this
  | some i =>
    have h := infoBool
    rw [hq] at h
    simp at h
    obtain ⟨hz, hs, hby⟩ := h
    have hr := run_make (P := Try.prog) w 25 4 i (.bool false) Try.underlying25 hq hz .i64 .i64 n n (by omega) (Int.le_refl _) (by rw [hby]; omega) (by omega)
    simp only [Int.toNat_natCast, hs, Nat.mul_one] at hr
    refine ⟨_, hr, ⟨by simp, fun q hq => ?_⟩, (Below.refl _ w).alloc (Nat.le_refl _) _⟩
    have hq' : q < n := by simpa using hq
    have hl := heap_alloc_last w (Obj.cells (madeCells (Value.bool false).cells n) 4)
    refine ⟨?_, ?_⟩
    · rw [cell_of_row _ _ q _ _ (0, 0) hl]
      simp [madeCells, Value.cells, hq', Nat.mod_one]
    · unfold World.frozen?; rw [hl]; simp
attribute [local irreducible] plc mark bitN bitsOf
set_option maxRecDepth 100000 in
set_option maxHeartbeats 1000000 in
theorem rmake_any {w : World} (A : Option Addr) (c : Nat) (l : List (List UInt8)) (hl : l.length ≤ 100) (hs : ∀ s ∈ l, s.length ≤ 300) (ha : SRow w A l) :
    Calls Try.prog 10 #[.slice A l.length c] w fun e w' => (e = .returned (.slice (some ⟨w.heap.size, 0, none⟩) (bitsOf l.length) (bitsOf l.length)) ∧ HoldsT w' w.heap.size (truths (mk l))) ∧ Below w.heap.size w w' := by
  have HA := Lib.hid ha
  have HS := Lib.hid hs
  clear ha hs
  obtain ⟨n, hn, hn8, hbits⟩ : ∃ n : Nat, bitsOf l.length = n * 8 ∧ 8 ≤ n ∧ n ≤ 200 := by
    refine ⟨bitsOf l.length / 8, (bitsOf_div _).symm, ?_, ?_⟩
    · have := bitsOf_pos l.length; omega
    · unfold bitsOf; omega
  have HN := Lib.hid hn
  obtain ⟨N, hN⟩ : ∃ N, N = n * 8 := ⟨_, rfl⟩
  have hN1 : N ≤ 2000 := by omega
  have hN2 : 1 ≤ N := by omega
  rw [hn, ← hN]
  have HNN := Lib.hid hN
  obtain ⟨w1, hmk, hh1, hb1⟩ := made_truths w N (by omega)
  have hbt : ∀ w, Calls Try.prog 12 #[.int .i64 l.length] w fun e w' => e = .returned (.int .i64 (N : Int)) ∧ w = w' := fun w => by
    have := rbits_any l.length (by omega) w
    rw [hn, ← hN] at this
    exact this
  have HBT := Lib.hid hbt
  have HH1 : Hid (HoldsT w1 w.heap.size (truths (mkGo N (List.replicate n 0) (l.take 0)))) := by
    show HoldsT w1 w.heap.size (truths (List.replicate n 0))
    rw [truths_zero, ← hN]; exact hh1
  have HB1 := Lib.hid hb1
  clear hbt hh1 hb1 hn hN
  go_enter Try.func10, Try.ntmps10
  go_wp2_with (first
    | (go_at_call 12; (with_reducible refine (HBT.out _).mono ?_); rintro e w' ⟨rfl, rfl⟩))
  clear hmk
  go_loopw [14] (fun i wr => ∃ j : Nat, j ≤ l.length ∧ i = .int .i64 j ∧ Below w.heap.size w wr ∧ HoldsT wr w.heap.size (truths (mkGo N (List.replicate n 0) (l.take j)))) (fun i _ => l.length - (intOf i).toNat)
  case atStart => exact ⟨0, by omega, rfl, HB1.out, HH1.out⟩
  case round =>
    obtain ⟨j, hj, rfl, hb, hh⟩ := hrel
    have HB := Lib.hid hb
    have HH := Lib.hid hh
    clear hb hh
    by_cases hlt : j < l.length
    · obtain ⟨a, rfl, hab, hca⟩ := HA.out (by omega)
      have x0 : wr.cell? (a.add j) = some (.string (bs l[j])) := (HB.out.cell (p := a.add j) (by rw [block_add]; exact hab)).trans (hca j hlt)
      have hsj := HS.out l[j] (List.getElem_mem hlt)
      have htk := Lib.hid (List.take_succ_eq_append_getElem hlt)
      have hsn := Lib.hid (mkGo_snoc N (List.replicate n 0) (l.take j) l[j])
      generalize l[j] = key at x0 hsj htk hsn
      generalize hFe : mkGo N (List.replicate n 0) (l.take j) = F at *
      have hFl : Hid (F.length * 8 = N) := by rw [← hFe, HNN.out]; congr 1; exact (mkGo_len _ _ _).trans (by simp)
      have HP : Hid (∀ W, Calls Try.prog 14 #[.string (bs key), .int .i64 (N : Int)] W fun e w' => (e = .returned (.slice (some ⟨W.heap.size, 0, none⟩) 6 6) ∧ Six w' W.heap.size (plc key N)) ∧ Below W.heap.size W w') := fun W =>
        rplaces_any (bs key) (by rw [bs_size]; omega) N (by omega) (by omega) W
      clear hca hFe
      go_wp2_with (first
        | (go_at_call 14; (with_reducible refine (HP.out _).mono ?_); rintro e w3 ⟨⟨rfl, hs3⟩, hw3⟩; have HB3 := Lib.hid (HB.out.trans (hw3.mono HB.out.size)); have HH3 := Lib.hid (holdsT_below HH.out hw3 HH.out.1); have HS3 := Lib.hid hs3; have hgw := HH.out.1; clear hw3 hs3))
      generalize wr.heap.size = g3 at *
      go_loopw [23] (fun i wq => ∃ k : Nat, k ≤ 6 ∧ i = .int .i64 k ∧ Below w.heap.size w wq ∧ Six wq g3 (plc key N) ∧ HoldsT wq w.heap.size (truths (marks F ((plcs key N).take k)))) (fun i _ => 6 - (intOf i).toNat)
      case atStart => exact ⟨0, by omega, rfl, HB3.out, HS3.out, HH3.out⟩
      case round =>
        obtain ⟨k, hk, rfl, hb, hsx, hh⟩ := hrel
        have HB4 := Lib.hid hb
        have HS4 := Lib.hid hsx
        have HH4 := Lib.hid hh
        clear hb hsx hh
        by_cases h6 : k < 6
        · have hc := HS4.out.2 k h6
          have hpk := plc_lt key (bits := N) (by omega) k
          have htk4 := Lib.hid (List.take_succ_eq_append_getElem (l := plcs key N) (i := k) h6)
          have hpa := Lib.hid (plcs_at key N k h6)
          have HML : Hid ((marks F ((plcs key N).take k)).length * 8 = N) := by rw [marks_len]; exact hFl.out
          have hms := Lib.hid (marks_snoc F ((plcs key N).take k) (plc key N k))
          generalize hGe : marks F ((plcs key N).take k) = G at *
          generalize plc key N k = p at *
          have hp : p < (truths G).length := by rw [truths_len, HML.out]; exact hpk
          obtain ⟨c0, c1⟩ := HH4.out.2 p hp
          have HST : Hid (HoldsT (wr.setCell ⟨w.heap.size, p, none⟩ (.bool true)) w.heap.size (truths (mark G p))) := by
            rw [truths_mark G p (by rw [HML.out]; exact hpk)]
            exact holdsT_set HH4.out true hp
          have HSS : Hid (Six (wr.setCell ⟨w.heap.size, p, none⟩ (.bool true)) g3 (plc key N)) := ⟨by simpa using HS4.out.1, fun j hj => by
            rw [World.cell?_setCell_other _ _ _ _ (by intro e; injection e with e1 _ _; omega)]; exact HS4.out.2 j hj⟩
          clear hGe
          go_wp2
          go_roundw
          case rel => exact ⟨k + 1, by omega, by go_num, HB4.out.setCell (Nat.le_refl _) _, HSS.out, by rw [htk4.out, hpa.out, hms.out]; exact HST.out⟩
          case measure => simp [intOf]; omega
        · obtain rfl : k = 6 := by omega
          go_wp2
          go_roundw
          case rel => exact ⟨j + 1, by omega, by go_num, HB4.out, by rw [htk.out, hsn.out]; exact HH4.out⟩
          case measure => simp [intOf]; omega
    · obtain rfl : j = l.length := by omega
      go_wp2
      go_ret
      refine ⟨⟨rfl, ?_⟩, HB.out⟩
      have e : mk l = mkGo N (List.replicate n 0) (l.take l.length) := by
        rw [List.take_length, mk, HN.out, HNN.out, Nat.mul_div_cancel _ (by decide)]
      rw [e]; exact HH.out
end Go.Proofs.Ytmgfgododhplpaa.Bl
