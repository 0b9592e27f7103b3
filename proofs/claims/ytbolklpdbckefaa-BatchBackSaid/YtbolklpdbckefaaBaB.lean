/-
  The Go text of batches, walked: Check. Conditions: as each theorem states.
-/
import Derived.Test.YtbolklpdbckefaaBaA
namespace Go.Proofs.Ytbolklpdbckefaa.Ba
open Go.RowKit
open Go.Proofs.Ytbolklpdbckefaa
open Vi

theorem check_at (y : Chg) (hs : y.small) (w : World) : Calls Try.prog 25 #[.agg #[.int .i64 y.kind, .string y.key, .string y.value]] w (CkPost w (chk1 y)) := check_any y hs w
theorem chkGo_bad {l : List Chg} {j : Nat} (hj : j < l.length) (h : ¬ chk1 l[j] = 0) : chkGo (l.drop j) = chk1 l[j] := by
  rw [List.drop_eq_getElem_cons hj, chkGo, if_neg h]
theorem chkGo_on {l : List Chg} {j : Nat} (hj : j < l.length) (h : chk1 l[j] = 0) : chkGo (l.drop j) = chkGo (l.drop (j + 1)) := by
  rw [List.drop_eq_getElem_cons hj, chkGo, if_pos h]
theorem chkB_go {seq : Nat} {l : List Chg} (h : ¬ 2000 < l.length) (hg : ¬ chkGo l = 0) : chkB seq l = chkGo l := by unfold chkB; rw [if_neg h, if_neg hg]
theorem box2 {w wr : World} {x y : Value} {t : TypeId} (hb : Below (w.heap.size + 1) (w.alloc (.cells #[x, y] t (0, 0))) wr) :
    wr.cell? ⟨w.heap.size, 0, none⟩ = some x ∧ wr.cell? ⟨w.heap.size, 1, none⟩ = some y := by
  have h : wr.heap[w.heap.size]? = some (.cells #[x, y] t (0, 0)) := (hb.block w.heap.size (by omega)).trans (heap_alloc_new w _)
  exact ⟨cell_in h 0 _ rfl, cell_in h 1 _ rfl⟩
theorem box_below {w wr : World} {o : Obj} (hb : Below (w.heap.size + 1) (w.alloc o) wr) : Below w.heap.size w wr :=
  ((Below.refl _ _).alloc (Nat.le_refl _) _).trans (hb.mono (by omega))
theorem box_size {w wr : World} {o : Obj} (hb : Below (w.heap.size + 1) (w.alloc o) wr) : w.heap.size + 1 ≤ wr.heap.size := by
  have := hb.size; simpa using this
theorem box_step {w wr w2 : World} {o o2 : Obj} (hb : Below (w.heap.size + 1) (w.alloc o) wr) (h2 : Below (wr.alloc o2).heap.size (wr.alloc o2) w2) : Below (w.heap.size + 1) (w.alloc o) w2 :=
  (hb.alloc (box_size hb) _).trans (h2.mono (by have := box_size hb; simp; omega))
def CkRel (w : World) (o : Obj) (l : List Chg) (i : Value) (wr : World) : Prop := ∃ j : Nat, j ≤ l.length ∧ i = .int .i64 (j : Nat) ∧ Below (w.heap.size + 1) (w.alloc o) wr ∧ chkGo (l.drop j) = chkGo l
set_option maxHeartbeats 1000000 in
set_option maxRecDepth 100000 in
theorem checkB_any (seq : Nat) (hq : seq < 18446744073709551616) {A : Option Addr} {c : Nat} {l : List Chg} {w : World} (RA : CRow w A l) (hl : l.length ≤ 9223372036854775807) (hs : ∀ p ∈ l, p.small) :
    Calls Try.prog 10 #[.agg #[.int .u64 seq, .slice A l.length c]] w (CkPost w (chkB seq l)) := by
  replace RA := Lib.hid RA
  have HS := Lib.hid hs
  clear hs
  by_cases h2 : 2000 < l.length
  · rw [show chkB seq l = 6 from if_pos h2]
    go_enter Try.func10, Try.ntmps10
    go_wp2
    go_ret
    exact ⟨rfl, (Below.refl _ _).alloc (Nat.le_refl _) _⟩
  go_enter Try.func10, Try.ntmps10
  go_wp2
  go_loopw [13] (CkRel w (.cells #[.int .u64 seq, .slice A l.length c] 27 (0, 0)) l) (fun i _ => l.length - (intOf i).toNat)
  case atStart => exact ⟨0, by omega, rfl, Below.refl _ _, rfl⟩
  case round =>
    obtain ⟨j, hj, rfl, hb, hgo⟩ := hrel
    have HG := Lib.hid hgo
    clear hgo
    by_cases hlt : j < l.length
    · obtain ⟨a, rfl, hab, hca⟩ := RA.out (by omega)
      obtain ⟨x0, x1, x2⟩ := hca j hlt
      have HC := check_at l[j] (HS.out _ (List.getElem_mem hlt))
      have hbl : (a.add (j * 3)).block < w.heap.size := by rw [block_add]; exact hab
      have hb' := box_below hb
      rw [← hb'.cell (p := a.add (j * 3)) hbl] at x0
      rw [← hb'.cell (p := ⟨(a.add (j * 3)).block, (a.add (j * 3)).off + 1, none⟩) hbl] at x1
      rw [← hb'.cell (p := ⟨(a.add (j * 3)).block, (a.add (j * 3)).off + 2, none⟩) hbl] at x2
      clear hca
      have HB := Lib.hid hb
      clear hb hb'
      by_cases hc : chk1 l[j] = 0
      · have hon := chkGo_on hlt hc
        rw [hc] at HC
        have HC := Lib.hid HC
        have HH := Lib.hid (hon.symm.trans HG.out)
        clear hc hon
        generalize l[j] = y at *
        go_wp2_with (go_at_call 25; refine (HC.out _).mono ?_; rintro e w2 ⟨rfl, hb2⟩)
        go_roundw
        case rel => exact ⟨j + 1, by omega, by go_num, box_step HB.out hb2, HH.out⟩
        case measure => simp [intOf]; omega
      · have HH := Lib.hid ((chkB_go (seq := seq) h2 (by rw [← HG.out, chkGo_bad hlt hc]; exact hc)).trans (HG.out.symm.trans (chkGo_bad hlt hc)))
        have HC := Lib.hid HC
        generalize l[j] = y at *
        have hc' : (chk1 y == 0) = false := by simpa using hc
        have hc2 : (chk1 y != 0) = true := by simp [bne, hc']
        generalize chk1 y = z at *
        go_wp2_with (go_at_call 25; refine (HC.out _).mono ?_; rintro e w2 ⟨rfl, hb2⟩)
        go_ret
        exact ⟨by rw [HH.out]; rfl, box_below (box_step HB.out hb2)⟩
    · have hj2 : j = l.length := by omega
      subst hj2
      have h0 : chkGo l = 0 := by rw [← HG.out, List.drop_of_length_le (Nat.le_refl _)]; rfl
      obtain ⟨b0, b1⟩ := box2 hb
      have HB := Lib.hid hb
      have E : chkB seq l = if 72057594037927935 < seq ∨ 72057594037927935 - seq + 1 < l.length then 8 else 0 := by unfold chkB; rw [if_neg h2, if_pos h0]
      replace E := Lib.hid E
      clear hb h0 HG
      by_cases h3 : 72057594037927935 < seq
      · have E2 : Hid (chkB seq l = 8) := E.out.trans (if_pos (.inl h3))
        go_wp2
        go_ret
        exact ⟨by rw [E2.out]; rfl, box_below HB.out⟩
      · by_cases h4 : 72057594037927935 - seq + 1 < l.length
        · have E2 : Hid (chkB seq l = 8) := E.out.trans (if_pos (.inr h4))
          go_wp2
          go_ret
          exact ⟨by rw [E2.out]; rfl, box_below HB.out⟩
        · have E2 : Hid (chkB seq l = 0) := E.out.trans (if_neg (by omega))
          go_wp2
          go_ret
          exact ⟨by rw [E2.out]; rfl, box_below HB.out⟩
end Go.Proofs.Ytbolklpdbckefaa.Ba
