/-
  The Go text of a filter's making, walked. Conditions: as each theorem states.
-/
import Derived.Test.YtmgfgododhplpaaBlC
import Derived.Test.YtmgfgododhplpaaSr
import Derived.OwnWalk
import Derived.StillTailTactics
import Derived.Laws.IdiomStrings
import Derived.Deep.RegionHeld3
namespace Go.Proofs.Ytmgfgododhplpaa.Bl
open Go.RowKit
open Crc (ret_int val_int)

/-- block b of the world holds the bytes l, and may be written -/
def Holds (w : World) (b : Nat) (l : List UInt8) : Prop := b < w.heap.size ∧ ∀ q (h : q < l.length), w.cell? ⟨b, q, none⟩ = some (.int .u8 (l[q].toNat : Int)) ∧ w.frozen? ⟨b, q, none⟩ = false
theorem holds_set {w : World} {b : Nat} {l : List UInt8} (h : Holds w b l) {i : Nat} (hi : i < l.length) (u : UInt8) :
    Holds (w.setCell ⟨b, i, none⟩ (.int .u8 (u.toNat : Int))) b (l.set i u) := by
  refine ⟨by simpa using h.1, fun q hq => ?_⟩
  have hq' : q < l.length := by simpa using hq
  obtain ⟨h1, h2⟩ := h.2 q hq'
  by_cases e : q = i
  · subst e
    refine ⟨?_, by rw [World.frozen?_setCell]; exact h2⟩
    rw [World.cell?_setCell_same w _ _ h1]
    simp
  · refine ⟨?_, by rw [World.frozen?_setCell]; exact h2⟩
    rw [World.cell?_setCell_other w _ _ _ (by intro h; injection h with _ h _; exact e h.symm), h1, List.getElem_set_ne (Ne.symm e)]
theorem holds_below {B : Nat} {w w' : World} {b : Nat} {l : List UInt8} (h : Holds w b l) (hb : Below B w w') (hB : b < B) : Holds w' b l :=
  ⟨Nat.lt_of_lt_of_le h.1 hb.size, fun q hq => ⟨(hb.cell (p := ⟨b, q, none⟩) hB).trans (h.2 q hq).1, (hb.frozen (p := ⟨b, q, none⟩) hB).trans (h.2 q hq).2⟩⟩
theorem holds_drewN {w : World} {b : Nat} {l : List UInt8} (h : Holds w b l) (n : Nat) : Holds (w.drewN n) b l := h
theorem infoByte : (Try.prog.info? 5).map (fun i => (i.zero, i.size, i.bytes)) = some (some (.int .u8 0), 1, 1) := by kernel_rfl
theorem made_bytes (w : World) (n : Nat) (hn : n ≤ 1000000) : ∃ w', (Instr.makeSlice 38 (.int .i64 (n : Int)) (.int .i64 (n : Int))).run Try.prog w = .ok (.slice (some ⟨w.heap.size, 0, none⟩) n n) w' ∧ Holds w' w.heap.size (List.replicate n 0) ∧ Below w.heap.size w w' := by
  cases hq : Try.prog.info? 5 with
  | none => have := infoByte; rw [hq] at this; simp at this
  | some i =>
    have h := infoByte
    rw [hq] at h
    simp at h
    obtain ⟨hz, hs, hby⟩ := h
    have hr := run_make (P := Try.prog) w 38 5 i (.int .u8 0) Try.underlying38 hq hz .i64 .i64 n n (by omega) (Int.le_refl _) (by rw [hby]; omega) (by omega)
    simp only [Int.toNat_natCast, hs, Nat.mul_one] at hr
    refine ⟨_, hr, ⟨by simp, fun q hq => ?_⟩, (Below.refl _ w).alloc (Nat.le_refl _) _⟩
    have hq' : q < n := by simpa using hq
    have hl := heap_alloc_last w (Obj.cells (madeCells (Value.int .u8 0).cells n) 5)
    refine ⟨?_, ?_⟩
    · rw [cell_of_row _ _ q _ _ (0, 0) hl]
      simp [madeCells, Value.cells, hq', Nat.mod_one]
    · unfold World.frozen?; rw [hl]; simp
theorem or_bit (c : UInt8) (p : Nat) : bits .or .u8 (c.toNat : Int) ((bitN p : Nat) : Int) = ((UInt8.ofNat (c.toNat ||| bitN p)).toNat : Int) := by
  rw [u8_or_nat _ _ c.toNat_lt (bitN_lt p), UInt8.toNat_ofNat', Nat.mod_eq_of_lt (or_lt c p)]
theorem mark_at (F : List UInt8) (p : Nat) (q : Nat) (e : q = p / 8) (h : q < F.length) : mark F p = F.set q (UInt8.ofNat (F[q].toNat ||| bitN p)) := by
  subst e
  unfold mark
  rw [List.getD_eq_getElem?_getD, List.getElem?_eq_getElem h]; rfl
theorem marks_snoc (F : List UInt8) (ps : List Nat) (p : Nat) : marks F (ps ++ [p]) = mark (marks F ps) p := by simp [marks]
theorem mkGo_snoc (bits : Nat) (F : List UInt8) (keys : List (List UInt8)) (k : List UInt8) : mkGo bits F (keys ++ [k]) = marks (mkGo bits F keys) (plcs k bits) := by simp [mkGo]
attribute [local irreducible] plc mark bitN bitsOf
set_option maxRecDepth 100000 in
set_option maxHeartbeats 1000000 in
theorem make_any {w : World} (A : Option Addr) (c : Nat) (l : List (List UInt8)) (hl : l.length ≤ 100) (hs : ∀ s ∈ l, s.length ≤ 300) (ha : SRow w A l) :
    Calls Try.prog 9 #[.slice A l.length c] w fun e w' => e = .returned (.string (bs (mk l))) ∧ Below w.heap.size w w' := by
  have HA := Lib.hid ha
  have HS := Lib.hid hs
  clear ha hs
  obtain ⟨n, hn, hn8, hbits, hln⟩ : ∃ n : Nat, bitsOf l.length = n * 8 ∧ 8 ≤ n ∧ n ≤ 200 ∧ (mk l).length = n := by
    refine ⟨bitsOf l.length / 8, (bitsOf_div _).symm, ?_, ?_, mk_len l⟩
    · have := bitsOf_pos l.length; omega
    · unfold bitsOf; omega
  have HN := Lib.hid hn
  have HL := Lib.hid hln
  obtain ⟨w1, hmk, hh1, hb1⟩ := made_bytes w n (by omega)
  have hbt : ∀ w, Calls Try.prog 11 #[.int .i64 l.length] w fun e w' => e = .returned (.int .i64 ((n : Int) * 8)) ∧ w = w' := fun w => by
    have := bits_any l.length (by omega) w
    rw [hn, show ((n * 8 : Nat) : Int) = (n : Int) * 8 by omega] at this
    exact this
  have HBT := Lib.hid hbt
  have HH1 := Lib.hid hh1
  have HB1 := Lib.hid hb1
  have hdiv : (n : Int) * 8 / 8 = (n : Int) := by omega
  clear hbt hh1 hb1 hn hln
  go_enter Try.func9, Try.ntmps9
  go_wp2_with (first
    | (go_at_call 11; (with_reducible refine (HBT.out _).mono ?_); rintro e w' ⟨rfl, rfl⟩))
  clear hmk
  go_loopw [17] (fun i wr => ∃ j : Nat, j ≤ l.length ∧ i = .int .i64 j ∧ Below w.heap.size w wr ∧ Holds wr w.heap.size (mkGo (n * 8) (List.replicate n 0) (l.take j))) (fun i _ => l.length - (intOf i).toNat)
  case atStart => exact ⟨0, by omega, rfl, HB1.out, HH1.out⟩
  case round =>
    obtain ⟨j, hj, rfl, hb, hh⟩ := hrel
    have HB := Lib.hid hb
    have HH := Lib.hid hh
    clear hb hh
    by_cases hlt : j < l.length
    · obtain ⟨a, rfl, hab, hca⟩ := HA.out (by omega)
      have x0 : wr.cell? (a.add j) = some (.string (bs l[j])) := (HB.out.cell (p := a.add j) (by rw [block_add]; exact hab)).trans (hca j hlt)
      have hsj := HS.out l[j] (List.getElem_mem hlt)
      have htk := Lib.hid (List.take_succ_eq_append_getElem hlt)
      have hsn := Lib.hid (mkGo_snoc (n * 8) (List.replicate n 0) (l.take j) l[j])
      generalize l[j] = key at x0 hsj htk hsn
      generalize hFe : mkGo (n * 8) (List.replicate n 0) (l.take j) = F at *
      have hFl : Hid (F.length = n) := by rw [← hFe]; exact (mkGo_len _ _ _).trans (by simp)
      have HP : Hid (∀ W, Calls Try.prog 13 #[.string (bs key), .int .i64 ((n : Int) * 8)] W fun e w' => e = .returned (.agg (pcsOf key (n * 8))) ∧ Below W.heap.size W w') := fun W => by
        have := places_any (bs key) (by rw [bs_size]; unfold maxLen; omega) (n * 8) (by omega) (by omega) W
        rw [show ((n * 8 : Nat) : Int) = (n : Int) * 8 by omega] at this
        exact this
      clear hca hFe
      go_wp2_with (first
        | (go_at_call 13; (with_reducible refine (HP.out _).mono ?_); rintro e w3 ⟨rfl, hw3⟩; have HB3 := Lib.hid (HB.out.trans (hw3.mono HB.out.size)); have HH3 := Lib.hid (holds_below HH.out hw3 HH.out.1); clear hw3))
      go_loopw [24] (fun i wr => ∃ k : Nat, k ≤ 6 ∧ i = .int .i64 k ∧ Below w.heap.size w wr ∧ Holds wr w.heap.size (marks F ((plcs key (n * 8)).take k))) (fun i _ => 6 - (intOf i).toNat)
      case atStart => exact ⟨0, by omega, rfl, HB3.out, HH3.out⟩
      case round =>
        obtain ⟨k, hk, rfl, hb, hh⟩ := hrel
        have HB4 := Lib.hid hb
        have HH4 := Lib.hid hh
        clear hb hh
        by_cases h6 : k < 6
        · have hidx := fun w => index_pl key (n * 8) k w h6
          have hpk := plc_lt key (bits := n * 8) (by omega) k
          have htk4 := Lib.hid (List.take_succ_eq_append_getElem (l := plcs key (n * 8)) (i := k) h6)
          have hpa := Lib.hid (plcs_at key (n * 8) k h6)
          have HML : Hid ((marks F ((plcs key (n * 8)).take k)).length = n) := (marks_len _ _).trans hFl.out
          have hms := Lib.hid (marks_snoc F ((plcs key (n * 8)).take k) (plc key (n * 8) k))
          generalize hGe : marks F ((plcs key (n * 8)).take k) = G at *
          generalize plc key (n * 8) k = p at *
          obtain ⟨q, hq2, hq0⟩ : ∃ q : Nat, (p : Int) / 8 = (q : Int) ∧ q = p / 8 := ⟨p / 8, by omega, rfl⟩
          have hqn : q < n := by omega
          have hq : q < G.length := by rw [HML.out]; exact hqn
          obtain ⟨u, hob, hma0⟩ : ∃ u : UInt8, bits .or .u8 (G[q].toNat : Int) ((bitN p : Nat) : Int) = (u.toNat : Int) ∧ mark G p = G.set q u := ⟨_, or_bit G[q] p, mark_at G p q hq0 hq⟩
          have hma := Lib.hid hma0
          obtain ⟨c0, c1⟩ := HH4.out.2 q hq
          have HS4 := Lib.hid (holds_set HH4.out hq u)
          have HP9 : Hid (p ≤ 9000000000000000000) := by unfold Hid; omega
          clear hq0 hGe hma0
          have i0 : (0 : Int) ≤ (q : Int) := by omega
          have i1 : (q : Int) < (n : Int) := by omega
          have hq3 : (p : Int).tdiv 8 = (q : Int) := by rw [Int.tdiv_eq_ediv_of_nonneg (by omega)]; exact hq2
          have hq4 : IntKind.i64.wrap (q : Int) = (q : Int) := IntWalk.i64_in _ (by omega)
          go_wp2
          go_region_with (go_at_call 17; refine (bit_any p HP9.out _).mono ?_; rintro e w1 ⟨rfl, rfl⟩)
          all_goals
            clear hq3 hq4
            go_wp2
            go_roundw
            case rel => exact ⟨k + 1, by omega, by go_num, (HB4.out.setCell (Nat.le_refl _) _).drew, by rw [htk4.out, hpa.out, hms.out, hma.out]; exact HS4.out⟩
            case measure => simp [intOf]; omega
        · obtain rfl : k = 6 := by omega
          go_wp2
          go_roundw
          case rel => exact ⟨j + 1, by omega, by go_num, HB4.out, by rw [htk.out, hsn.out]; exact HH4.out⟩
          case measure => simp [intOf]; omega
    · obtain rfl : j = l.length := by omega
      have hcv : (convert 38 9 (.slice (some ⟨w.heap.size, 0, none⟩) n n)).run Try.prog wr = .ok (.string (bs (mk l))) wr := by
        have e : mk l = mkGo (n * 8) (List.replicate n 0) (l.take l.length) := by
          rw [List.take_length, mk, HN.out, Nat.mul_div_cancel _ (by decide)]
        have := run_convert_bytes_back (P := Try.prog) wr 38 9 5 ⟨w.heap.size, 0, none⟩ n (mk l) Try.underlying38 Try.underlying5 Try.underlying9 (fun q hq => by
          have hadd : (⟨w.heap.size, 0, none⟩ : Addr).add q = ⟨w.heap.size, q, none⟩ := by unfold Addr.add; split <;> simp_all
          rw [hadd]
          have h2 := HH.out.2 q (by rw [← e]; exact hq)
          rw [h2.1]
          simp only [e])
        rw [HL.out] at this
        exact this
      go_wp2
      go_ret
      exact ⟨rfl, HB.out⟩
end Go.Proofs.Ytmgfgododhplpaa.Bl
