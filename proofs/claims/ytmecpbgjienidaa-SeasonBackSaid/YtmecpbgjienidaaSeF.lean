/-
  The document's sums and waves; the power of a wave; walked. Conditions: as each theorem states.
-/
import Derived.Test.YtmecpbgjienidaaSeE
import Derived.Deep.QuietTactic
import Derived.BigQuiet
namespace Go.Proofs.Ytmecpbgjienidaa
open Go.RowKit
open Se Fl
attribute [local go_sem] run_store_float run_store_complex

theorem val_int {k : IntKind} {a b : Int} (h : a = b) : Value.int k a = .int k b := by rw [h]
/-- A row of four numbers in memory. -/
def ival (s : Nat → Int) : Nat → Value := fun j => .int .i64 (s j)
def SuJ (w : World) (s : Nat → Int) (wr : World) : Prop := Below w.heap.size w wr ∧ B4 wr w.heap.size (ival s)
theorem upd_ival (s : Nat → Int) (k : Nat) (x : Int) : upd (ival s) k (.int .i64 x) = ival (fun j => if j = k then x else s j) := by
  funext j
  unfold upd ival
  by_cases h : j = k <;> simp [h]
theorem smk_upd (l : List Int) (k : Nat) (x : Int) (hx : x = l.getD k 0) : (fun j => if j = k % 4 then smk l k (k % 4) + x else smk l k j) = smk l (k + 1) := by
  funext j
  subst hx
  by_cases h : j = k % 4
  · subst h; simp [smk]
  · have : ¬ k % 4 = j := fun e => h e.symm
    simp [smk, h, this]
def RsQ (l : List Int) (w : World) (e : Ending) (w' : World) : Prop := Below w.heap.size w w' ∧
  (tot l l.length ≤ 1125899906842624 → e = .returned (.tuple #[.slice (some ⟨w.heap.size, 0, none⟩) 4 4, .bool true]) ∧ B4 w' w.heap.size (ival (smk l l.length))) ∧
  (¬ tot l l.length ≤ 1125899906842624 → e = .returned (.tuple #[.slice none 0 0, .bool false]))
set_option maxHeartbeats 1000000 in
theorem rsums_any (A : Option Addr) (c : Nat) (l : List Int) (hl : l.length ≤ 1000000) (hall : ∀ p ∈ l, rg p) (w : World) (RA : NRow w A l) :
    Calls Try.prog 8 #[.slice A l.length c] w (RsQ l w) := by
  have HR := Lib.hid RA
  have HA := Lib.hid hall
  clear RA hall
  go_enter Try.func8, Try.ntmps8
  go_wp2
  go_loopw [5, 12] (fun s i wr => ∃ k : Nat, k ≤ l.length ∧ s = .int .i64 (tot l k : Nat) ∧ i = .int .i64 k ∧ tot l k ≤ 1125899906842624 ∧ SuJ w (smk l k) wr) (fun _ i _ => l.length - (intOf i).toNat)
  case atStart =>
    refine ⟨0, by omega, rfl, rfl, by simp [tot], ?_, ?_⟩
    · exact ((Below.refl _ w).alloc (Nat.le_refl _) _)
    · exact B4.new w (ival (smk l 0)) 2
  case round =>
    obtain ⟨k, hk, rfl, rfl, ht, hb, hb1⟩ := hrel
    have H1 := Lib.hid hb1
    clear hb1
    by_cases h1 : k < l.length
    · obtain ⟨a, rfl, hab, hc⟩ := HR.out (by omega)
      have x0 := hb.cell (p := a.add k) (by rw [block_add]; exact hab) |>.trans (hc k h1)
      have hx := HA.out l[k] (List.getElem_mem h1)
      have hgd : l.getD k 0 = l[k] := by rw [List.getD_eq_getElem?_getD, List.getElem?_eq_getElem h1]; rfl
      have htn : tot l (k + 1) = tot l k + (l[k]).natAbs := by show _ + _ = _; rw [hgd]
      have hk4 : k % 4 < 4 := Nat.mod_lt _ (by decide)
      have hmod : (k : Int) % 4 = ((k % 4 : Nat) : Int) := by omega
      have hm4 : k % 4 < 4 := Nat.mod_lt _ (by decide)
      have hso := smk_one l k (k % 4) hm4
      obtain ⟨hcl, hfr⟩ := H1.out.2 (k % 4) hk4
      have hcl2 : wr.cell? ⟨w.heap.size, k % 4, none⟩ = some (.int .i64 (smk l k (k % 4))) := hcl
      have HN : ∀ x : Int, x = l.getD k 0 → B4 (wr.setCell ⟨w.heap.size, k % 4, none⟩ (.int .i64 (smk l k (k % 4) + x))) w.heap.size (ival (smk l (k + 1))) := fun x hx => by
        rw [← smk_upd l k x hx, ← upd_ival]; exact H1.out.set hk4 _
      have HN2 := Lib.hid (HN l[k] hgd.symm)
      have HT := Lib.hid htn
      have hmo := tot_mono l (show k + 1 ≤ l.length by omega)
      clear hc hcl HN hgd hm4
      obtain ⟨hx1, hx2⟩ := hx
      by_cases hbig : tot l (k + 1) ≤ 1125899906842624
      · rw [htn] at hbig
        clear htn hmo hx1 hx2
        have hx1 : -1125899906842624 ≤ l[k] := by omega
        have hx2 : l[k] ≤ 1125899906842624 := by omega
        generalize hS : smk l k (k % 4) = sv at *
        clear hS
        generalize k % 4 = r at *
        generalize l[k] = x at *
        by_cases hneg : x < 0
        all_goals
          go_wp2
          exact ⟨⟨k + 1, by omega, val_int (by rw [HT.out]; omega), by go_num, by rw [HT.out]; exact hbig, hb.setCell (by simp) _, HN2.out⟩, by simp [intOf]; omega⟩
      · have hno : ¬ tot l l.length ≤ 1125899906842624 := by omega
        have HNO := Lib.hid hno
        rw [htn] at hbig
        clear htn hmo hno HN2
        have HB := Lib.hid hbig
        clear hbig
        generalize hS : smk l k (k % 4) = sv at *
        clear hS
        generalize k % 4 = r at *
        generalize l[k] = x at *
        have HX1 := Lib.hid hx1
        have HX2 := Lib.hid hx2
        clear hx1 hx2
        by_cases hm : x = -9223372036854775808
        · subst hm
          clear HX1 HX2
          have hwr : wrap64 9223372036854775808 = -9223372036854775808 := by unfold wrap64; omega
          go_wp2
          go_ret2
          exact ⟨hb, fun h => absurd h HNO.out, fun _ => rfl⟩
        · by_cases hneg : x < 0
          · have hw : IntKind.i64.wrap (-x) = -x := IntWalk.i64_in _ (by have := HX1.out; omega)
            by_cases hfar : -x ≤ 1125899906842624
            · have hp : (1125899906842624 : Int) < (tot l k : Int) + -x := by have := HB.out; omega
              clear hm
              go_wp2
              go_ret2
              exact ⟨hb, fun h => absurd h HNO.out, fun _ => rfl⟩
            · clear hm
              go_wp2
              go_ret2
              exact ⟨hb, fun h => absurd h HNO.out, fun _ => rfl⟩
          · clear hm
            by_cases hfar : x ≤ 1125899906842624
            · have hp : (1125899906842624 : Int) < (tot l k : Int) + x := by have := HB.out; omega
              go_wp2
              go_ret2
              exact ⟨hb, fun h => absurd h HNO.out, fun _ => rfl⟩
            · go_wp2
              go_ret2
              exact ⟨hb, fun h => absurd h HNO.out, fun _ => rfl⟩
    · obtain rfl : k = l.length := by omega
      have HT := Lib.hid ht
      clear ht
      go_wp2
      go_ret2
      exact ⟨hb, fun _ => ⟨rfl, H1.out⟩, fun h => absurd HT.out h⟩

/-! ## the document's waves -/
def RwQ (s : Nat → Int) (w : World) (e : Ending) (w' : World) : Prop := ∃ b1 b2 : Nat, e = .returned (.tuple #[.slice (some ⟨b1, 0, none⟩) 4 4, .slice (some ⟨b2, 0, none⟩) 4 4]) ∧
  w.heap.size ≤ b1 ∧ w.heap.size ≤ b2 ∧ B4 w' b1 (ival (wre s)) ∧ B4 w' b2 (ival (wim s)) ∧ Below w.heap.size w w'
set_option maxHeartbeats 1000000 in
theorem rwaves_any (b : Nat) (s : Nat → Int) (hs : szs s 4 ≤ 1125899906842624) (w : World) (hB : B4 w b (ival s)) :
    Calls Try.prog 9 #[.slice (some ⟨b, 0, none⟩) 4 4] w (RwQ s w) := by
  obtain ⟨a0, f0⟩ := hB.2 0 (by decide)
  obtain ⟨a1, f1⟩ := hB.2 1 (by decide)
  obtain ⟨a2, f2⟩ := hB.2 2 (by decide)
  obtain ⟨a3, f3⟩ := hB.2 3 (by decide)
  have hw0 : wre s 0 = s 0 + s 1 + s 2 + s 3 := rfl
  have hw1 : wre s 1 = s 0 - s 2 := rfl
  have hw2 : wre s 2 = s 0 - s 1 + s 2 - s 3 := rfl
  have hi1 : wim s 1 = s 3 - s 1 := rfl
  have hi3 : wim s 3 = s 1 - s 3 := rfl
  simp only [szs] at hs
  have k0 : -1125899906842624 ≤ s 0 ∧ s 0 ≤ 1125899906842624 := by omega
  have k1 : -1125899906842624 ≤ s 1 ∧ s 1 ≤ 1125899906842624 := by omega
  have k2 : -1125899906842624 ≤ s 2 ∧ s 2 ≤ 1125899906842624 := by omega
  have k3 : -1125899906842624 ≤ s 3 ∧ s 3 ≤ 1125899906842624 := by omega
  unfold ival at a0 a1 a2 a3
  have hlt := hB.1
  clear hs hB f0 f1 f2 f3
  go_enter Try.func9, Try.ntmps9
  go_wp2
  go_still_tail 44, (by kernel_rfl)
  change wpList _ _ _ _ _ w.drew
  have a0' : w.drew.cell? ⟨b, 0, none⟩ = some (.int .i64 (s 0)) := a0
  have a1' : w.drew.cell? ⟨b, 1, none⟩ = some (.int .i64 (s 1)) := a1
  have a2' : w.drew.cell? ⟨b, 2, none⟩ = some (.int .i64 (s 2)) := a2
  have a3' : w.drew.cell? ⟨b, 3, none⟩ = some (.int .i64 (s 3)) := a3
  go_wp2
  clear a0' a1' a2' a3'
  generalize hW1 : (w.alloc (Obj.cells #[Value.int IntKind.i64 (s 0 + s 1 + s 2 + s 3), Value.int IntKind.i64 (s 0 - s 2), Value.int IntKind.i64 (s 0 - s 1 + s 2 - s 3), Value.int IntKind.i64 (s 0 - s 2)] 2)).drew = w1
  have hb1 : Below w.heap.size w w1 := by rw [← hW1]; exact ((Below.refl _ w).alloc (Nat.le_refl _) _).drew
  have hz1 : w1.heap.size = w.heap.size + 1 := by rw [← hW1]; simp
  have B1 : B4 w1 w.heap.size (ival (wre s)) := by rw [← hW1]; exact (B4.new w (ival (wre s)) 2).drew
  have a1'' := (hb1.cell (p := ⟨b, 1, none⟩) hlt).trans a1
  have a3'' := (hb1.cell (p := ⟨b, 3, none⟩) hlt).trans a3
  have HB1 := Lib.hid B1
  have HZ1 := Lib.hid hz1
  have hi1' : wim s 1 = s 3 - s 1 := rfl
  clear hW1 B1 hz1 a0 a1 a2 a3
  go_wp2
  go_still_tail 14, (by kernel_rfl)
  change wpList _ _ _ _ _ w1.drew
  go_wp2
  have e1 : IntKind.i64.wrap (s 3 - s 1) = s 3 - s 1 := IntWalk.i64_in _ (by omega)
  have e3 : IntKind.i64.wrap (s 1 - s 3) = s 1 - s 3 := IntWalk.i64_in _ (by omega)
  go_ret2
  have hz := HZ1.out
  exact ⟨w.heap.size, w1.heap.size, rfl, Nat.le_refl _, by omega, B4.below HB1.out ((Below.refl w1.heap.size _).alloc (Nat.le_refl _) _).drew (by omega), (B4.new w1 (ival (wim s)) 2).drew, (hb1.alloc (by omega) _).drew⟩
end Go.Proofs.Ytmecpbgjienidaa
