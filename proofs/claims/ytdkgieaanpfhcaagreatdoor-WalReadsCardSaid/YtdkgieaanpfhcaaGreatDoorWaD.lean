/-
  The document's own batches, walked: Check, Same. Conditions: as each theorem states.
-/
import Derived.Test.YtdkgieaanpfhcaaGreatDoorGaBa
import Derived.Test.YtdkgieaanpfhcaaGreatDoorWaV
namespace Go.Proofs.YtdkgieaanpfhcaaGreatDoor.Wa
open Go.RowKit
open Go.Proofs.YtdkgieaanpfhcaaGreatDoor
open Vi Ba

def CkQ (w : World) (l : List Chg) (i : Value) (wr : World) : Prop := ∃ j : Nat, j ≤ l.length ∧ i = .int .i64 (j : Nat) ∧ Below w.heap.size w wr ∧ chkGo (l.drop j) = chkGo l
theorem below_new {w wr : World} (h : Below w.heap.size w wr) (o : Obj) : Below w.heap.size w (wr.alloc o) := h.alloc h.size o
set_option maxHeartbeats 2000000 in
set_option maxRecDepth 100000 in
theorem qcheck_any (seq : Nat) (hq : seq < 18446744073709551616) {A : Option Addr} {c : Nat} {l : List Chg} {w : World} (RA : CRow w A l) (hl : l.length ≤ 9223372036854775807) (hs : ∀ p ∈ l, p.small) :
    Calls Tryz.prog 55 #[.int .u64 seq, .slice A l.length c] w (CkPost w (chkB seq l)) := by
  replace RA := Lib.hid RA
  have HS := Lib.hid hs
  clear hs
  by_cases h2 : 2000 < l.length
  · rw [show chkB seq l = 6 from if_pos h2]
    go_enter Tryz.func55, Tryz.ntmps55
    go_wp2
    go_ret
    exact ⟨rfl, Below.refl _ _⟩
  go_enter Tryz.func55, Tryz.ntmps55
  go_wp2
  go_loopw [13] (CkQ w l) (fun i _ => l.length - (intOf i).toNat)
  case atStart => exact ⟨0, by omega, rfl, Below.refl _ _, rfl⟩
  case round =>
    obtain ⟨j, hj, rfl, hb, hgo⟩ := hrel
    have HG := Lib.hid hgo
    clear hgo
    by_cases hlt : j < l.length
    · obtain ⟨a, rfl, hab, hca⟩ := RA.out (by omega)
      obtain ⟨x0, x1, x2⟩ := hca j hlt
      obtain ⟨y1, y2⟩ := HS.out _ (List.getElem_mem hlt)
      have hbl : (a.add (j * 3)).block < w.heap.size := by rw [block_add]; exact hab
      rw [← hb.cell (p := a.add (j * 3)) hbl] at x0
      rw [← hb.cell (p := ⟨(a.add (j * 3)).block, (a.add (j * 3)).off + 1, none⟩) hbl] at x1
      rw [← hb.cell (p := ⟨(a.add (j * 3)).block, (a.add (j * 3)).off + 2, none⟩) hbl] at x2
      clear hca
      have HB := Lib.hid hb
      clear hb
      have HON := Lib.hid (fun hc => chkGo_on hlt hc)
      have HBD := Lib.hid (fun hc => (chkB_go (seq := seq) h2 (by rw [← HG.out, chkGo_bad hlt hc]; exact hc)).trans (HG.out.symm.trans (chkGo_bad hlt hc)))
      generalize l[j] = y at *
      obtain ⟨k, key, value⟩ := y
      simp only at x0 x1 x2 y1 y2
      by_cases k1 : k = 1
      · subst k1
        by_cases c1 : key.size < 1
        · have HX : Hid (chkB seq l = 19) := by
            have hc : chk1 ⟨1, key, value⟩ = 19 := by unfold chk1; rw [if_neg (by simp), if_pos (by simp only; omega)]
            rw [Hid, HBD.out (by rw [hc]; decide), hc]
          clear HON HBD
          go_wp2
          go_ret
          exact ⟨by rw [HX.out]; rfl, below_new HB.out _⟩
        · by_cases c2 : 200 < key.size
          · have HX : Hid (chkB seq l = 19) := by
              have hc : chk1 ⟨1, key, value⟩ = 19 := by unfold chk1; rw [if_neg (by simp), if_pos (by simp only; omega)]
              rw [Hid, HBD.out (by rw [hc]; decide), hc]
            clear HON HBD
            go_wp2
            go_ret
            exact ⟨by rw [HX.out]; rfl, below_new HB.out _⟩
          · by_cases c3 : 4096 < value.size
            · have HX : Hid (chkB seq l = 5) := by
                have hc : chk1 ⟨1, key, value⟩ = 5 := by unfold chk1; rw [if_neg (by simp), if_neg (by simp only; omega), if_pos (by simp only; omega)]
                rw [Hid, HBD.out (by rw [hc]; decide), hc]
              clear HON HBD
              go_wp2
              go_ret
              exact ⟨by rw [HX.out]; rfl, below_new HB.out _⟩
            · have HX := Lib.hid ((HON.out (by unfold chk1; rw [if_neg (by simp), if_neg (by simp only; omega), if_neg (by simp only; omega)])).symm.trans HG.out)
              clear HON HBD
              go_wp2
              go_roundw
              case rel => exact ⟨j + 1, by omega, by go_num, below_new HB.out _, HX.out⟩
              case measure => simp [intOf]; omega
      · by_cases k2 : k = 2
        · subst k2
          by_cases c1 : key.size < 1
          · have HX : Hid (chkB seq l = 19) := by
              have hc : chk1 ⟨2, key, value⟩ = 19 := by unfold chk1; rw [if_neg (by simp), if_pos (by simp only; omega)]
              rw [Hid, HBD.out (by rw [hc]; decide), hc]
            clear HON HBD
            go_wp2
            go_ret
            exact ⟨by rw [HX.out]; rfl, below_new HB.out _⟩
          · by_cases c2 : 200 < key.size
            · have HX : Hid (chkB seq l = 19) := by
                have hc : chk1 ⟨2, key, value⟩ = 19 := by unfold chk1; rw [if_neg (by simp), if_pos (by simp only; omega)]
                rw [Hid, HBD.out (by rw [hc]; decide), hc]
              clear HON HBD
              go_wp2
              go_ret
              exact ⟨by rw [HX.out]; rfl, below_new HB.out _⟩
            · by_cases c3 : 4096 < value.size
              · have HX : Hid (chkB seq l = 5) := by
                  have hc : chk1 ⟨2, key, value⟩ = 5 := by unfold chk1; rw [if_neg (by simp), if_neg (by simp only; omega), if_pos (by simp only; omega)]
                  rw [Hid, HBD.out (by rw [hc]; decide), hc]
                clear HON HBD
                go_wp2
                go_ret
                exact ⟨by rw [HX.out]; rfl, below_new HB.out _⟩
              · by_cases c4 : 0 < value.size
                · have HX : Hid (chkB seq l = 5) := by
                    have hc : chk1 ⟨2, key, value⟩ = 5 := by unfold chk1; rw [if_neg (by simp), if_neg (by simp only; omega), if_pos (Or.inr ⟨rfl, by simp only; omega⟩)]
                    rw [Hid, HBD.out (by rw [hc]; decide), hc]
                  clear HON HBD
                  go_wp2
                  go_ret
                  exact ⟨by rw [HX.out]; rfl, below_new HB.out _⟩
                · have HX := Lib.hid ((HON.out (by unfold chk1; rw [if_neg (by simp), if_neg (by simp only; omega), if_neg (by simp only; omega)])).symm.trans HG.out)
                  clear HON HBD
                  go_wp2
                  go_roundw
                  case rel => exact ⟨j + 1, by omega, by go_num, below_new HB.out _, HX.out⟩
                  case measure => simp [intOf]; omega
        · have z1 : (k == 1) = false := by simpa using k1
          have z2 : (k == 2) = false := by simpa using k2
          have z3 : (k != 1) = true := by simp [bne, z1]
          have z4 : (k != 2) = true := by simp [bne, z2]
          have HX : Hid (chkB seq l = 11) := by
            have hc : chk1 ⟨k, key, value⟩ = 11 := by unfold chk1; rw [if_pos (by simp only; omega)]
            rw [Hid, HBD.out (by rw [hc]; decide), hc]
          clear HON HBD
          go_wp2
          go_ret
          exact ⟨by rw [HX.out]; rfl, below_new HB.out _⟩
    · have hj2 : j = l.length := by omega
      subst hj2
      have h0 : chkGo l = 0 := by rw [← HG.out, List.drop_of_length_le (Nat.le_refl _)]; rfl
      have HB := Lib.hid hb
      have E : chkB seq l = if 72057594037927935 < seq ∨ 72057594037927935 - seq + 1 < l.length then 8 else 0 := by unfold chkB; rw [if_neg h2, if_pos h0]
      replace E := Lib.hid E
      clear hb h0 HG
      have hw1 : IntKind.u64.wrap (l.length : Int) = (l.length : Int) := by rw [IntKind.wrap_u64]; omega
      by_cases h3 : 72057594037927935 < seq
      · have E2 : Hid (chkB seq l = 8) := E.out.trans (if_pos (.inl h3))
        go_wp2
        go_ret
        exact ⟨by rw [E2.out]; rfl, HB.out⟩
      · have hw2 : IntKind.u64.wrap ((seq : Int) + (l.length : Int)) = (seq : Int) + (l.length : Int) := by rw [IntKind.wrap_u64]; omega
        by_cases h0 : 0 < l.length
        · have hw3 : IntKind.u64.wrap ((seq : Int) + (l.length : Int) - 1) = ((seq + l.length - 1 : Nat) : Int) := by rw [IntKind.wrap_u64]; omega
          by_cases h4 : 72057594037927935 - seq + 1 < l.length
          · have E2 : Hid (chkB seq l = 8) := E.out.trans (if_pos (.inr h4))
            have h5 : 72057594037927935 < seq + l.length - 1 := by omega
            go_wp2
            go_ret
            exact ⟨by rw [E2.out]; rfl, HB.out⟩
          · have E2 : Hid (chkB seq l = 0) := E.out.trans (if_neg (by omega))
            have h5 : ¬ 72057594037927935 < seq + l.length - 1 := by omega
            go_wp2
            go_ret
            exact ⟨by rw [E2.out]; rfl, HB.out⟩
        · have E2 : Hid (chkB seq l = 0) := E.out.trans (if_neg (by omega))
          go_wp2
          go_ret
          exact ⟨by rw [E2.out]; rfl, HB.out⟩
end Go.Proofs.YtdkgieaanpfhcaaGreatDoor.Wa
