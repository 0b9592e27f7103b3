/-
  The document's answers on a key's places, and on whether it may be there, walked. Conditions: as each theorem states.
-/
import Derived.Test.YtmgfgododhplpaaBlG
namespace Go.Proofs.Ytmgfgododhplpaa.Bl
open Go.RowKit
open Crc (ret_int val_int)

/-- six numbers in block g -/
def Six (w : World) (g : Nat) (P : Nat → Nat) : Prop := g < w.heap.size ∧ ∀ j, j < 6 → w.cell? ⟨g, j, none⟩ = some (.int .i64 ((P j : Nat) : Int))
theorem Six.below {B : Nat} {w w' : World} {g : Nat} {P : Nat → Nat} (h : Six w g P) (hb : Below B w w') (hB : w.heap.size ≤ B) : Six w' g P :=
  ⟨Nat.lt_of_lt_of_le h.1 hb.size, fun j hj => (hb.cell (p := ⟨g, j, none⟩) (Nat.lt_of_lt_of_le h.1 hB)).trans (h.2 j hj)⟩
def RpJ (w : World) (A B bits : Nat) (i : Value) (wr : World) : Prop :=
  ∃ k : Nat, k ≤ 6 ∧ i = .int .u64 k ∧ Below w.heap.size w wr ∧ w.heap.size < wr.heap.size ∧
    (∀ j, j < 6 → wr.cell? ⟨w.heap.size, j, none⟩ = some (pvk A B bits k j) ∧ wr.frozen? ⟨w.heap.size, j, none⟩ = false)
theorem rp_start (w : World) (A B bits : Nat) : RpJ w A B bits (.int .u64 0) (w.alloc (.cells z6 3)) := by
  have h := heap_alloc_last w (.cells z6 3)
  refine ⟨0, by omega, rfl, (Below.refl _ w).alloc (Nat.le_refl _) _, by simp, fun j hj => ⟨?_, ?_⟩⟩
  · rw [cell_of_row _ _ j z6 _ (0, 0) h, z6_at j hj]; simp [pvk]
  · unfold World.frozen?; rw [h]; simp
theorem rp_next {w wr : World} {A B bits k : Nat} {x : Int} (hk : k < 6) (hx : x = (pl A B bits k : Nat)) (h : RpJ w A B bits (.int .u64 k) wr) : RpJ w A B bits (.int .u64 ((k + 1 : Nat) : Int)) (wr.setCell ⟨w.heap.size, k, none⟩ (.int .i64 x)) := by
  obtain ⟨k', hk6, ek, hb, hz, h1⟩ := h
  obtain rfl : k' = k := by injection ek with _ e; omega
  subst hx
  refine ⟨k' + 1, by omega, rfl, hb.setCell (Nat.le_refl _) _, by simpa using hz, fun j hj => ?_⟩
  refine ⟨?_, by rw [World.frozen?_setCell]; exact (h1 j hj).2⟩
  by_cases e : j = k'
  · subst e
    rw [World.cell?_setCell_same _ _ _ (h1 j hj).1]; simp [pvk, pv]
  · rw [World.cell?_setCell_other _ _ _ _ (by intro e1; injection e1 with _ e2 _; omega), (h1 j hj).1]
    unfold pvk
    have : (j < k' + 1) ↔ (j < k') := by omega
    simp only [this]
theorem u64_in (n : Int) (h0 : 0 ≤ n) (h1 : n < 18446744073709551616) : IntKind.u64.wrap n = n := by rw [IntKind.wrap_u64]; omega
theorem rpl_eq (A B bits k : Nat) (hA : A < 4294967296) (hB : B < 4294967296) (hb0 : 1 ≤ bits) (hb : bits ≤ 9000000000000000000) (hk : k < 6) :
    wrap64 (((IntKind.u64.wrap (IntKind.u64.wrap ((A : Int) + IntKind.u64.wrap ((k : Int) * (B : Int))) + IntKind.u64.wrap ((k : Int) * (k : Int)))).tmod 4294967296).tmod (bits : Int)) = ((pl A B bits k : Nat) : Int) := by
  have e1 : (k : Int) * (B : Int) = ((k * B : Nat) : Int) := by simp
  have e2 : (k : Int) * (k : Int) = ((k * k : Nat) : Int) := by simp
  have b1 : k * B ≤ 5 * B := Nat.mul_le_mul_right _ (by omega)
  have b2 : k * k ≤ 5 * 5 := Nat.mul_le_mul (by omega) (by omega)
  have e0 : pl A B bits k = (A + k * B + k * k) % 4294967296 % bits := rfl
  have h : pl A B bits k < bits := Nat.mod_lt _ hb0
  rw [e1, e2]
  generalize k * B = x at *
  generalize k * k = y at *
  rw [u64_in (x : Int) (by omega) (by omega), u64_in (y : Int) (by omega) (by omega), u64_in ((A : Int) + (x : Int)) (by omega) (by omega), u64_in _ (by omega) (by omega)]
  have e3 : (A : Int) + (x : Int) + (y : Int) = ((A + x + y : Nat) : Int) := by omega
  rw [e3]
  have e4 : (((A + x + y : Nat) : Int).tmod 4294967296).tmod (bits : Int) = ((pl A B bits k : Nat) : Int) := by
    rw [e0, Int.tmod_eq_emod_of_nonneg (a := ((A + x + y : Nat) : Int)) (by omega), Int.tmod_eq_emod_of_nonneg (by omega)]; rfl
  rw [e4]
  have h2 : -9223372036854775808 ≤ ((pl A B bits k : Nat) : Int) ∧ ((pl A B bits k : Nat) : Int) ≤ 9223372036854775807 := by omega
  exact IntWalk.wrap64_in _ h2
set_option maxRecDepth 100000 in
set_option maxHeartbeats 1000000 in
theorem rplaces_go (key : ByteArray) (A B : Nat) (hA : A < 4294967296) (hB : B < 4294967296) (bits : Nat) (hb0 : 1 ≤ bits) (hb : bits ≤ 9000000000000000000)
    (HO : ∀ w, Calls Try.prog 20 #[.string key] w fun e w' => e = .returned (.int .u32 A) ∧ w = w')
    (HD : ∀ w, Calls Try.prog 20 #[.string (key ++ ⟨#[7]⟩)] w fun e w' => e = .returned (.int .u32 B) ∧ w = w') (hsz : key.size ≤ 1000000) (w : World) :
    Calls Try.prog 14 #[.string key, .int .i64 bits] w fun e w' => (e = .returned (.slice (some ⟨w.heap.size, 0, none⟩) 6 6) ∧ Six w' w.heap.size (pl A B bits)) ∧ Below w.heap.size w w' := by
  have HO := Lib.hid HO
  have HD := Lib.hid HD
  go_enter Try.func14, Try.ntmps14
  go_wp2_with (first
    | (go_at_call 20; (with_reducible refine (HO.out _).mono ?_); rintro e w1 ⟨rfl, rfl⟩)
    | (go_at_call 20; (with_reducible refine (HD.out _).mono ?_); rintro e w2 ⟨rfl, rfl⟩))
  have HST := rp_start w A B bits
  unfold z6 at HST
  go_loopw [8] (fun i wr => RpJ w A B bits i wr) (fun i _ => 6 - (intOf i).toNat)
  case atStart => exact HST
  case round =>
    have HR := Lib.hid hrel
    obtain ⟨k, hk, rfl, hbw, hz, h1⟩ := hrel
    have H1 := Lib.hid h1
    clear h1 HST
    by_cases h6 : k < 6
    · obtain ⟨hc, hf⟩ := H1.out k h6
      go_wp2
      go_roundw
      case rel => exact rp_next h6 (rpl_eq A B bits k hA hB hb0 hb h6) HR.out
      case measure => simp [intOf]; omega
    · obtain rfl : k = 6 := by omega
      go_wp2
      go_ret
      exact ⟨⟨rfl, hz, fun j hj => by rw [(H1.out j hj).1]; simp [pvk, hj, pv]⟩, hbw⟩
theorem rplaces_any (key : ByteArray) (hs : key.size ≤ 1000000) (bits : Nat) (hb0 : 1 ≤ bits) (hb : bits ≤ 9000000000000000000) (w : World) :
    Calls Try.prog 14 #[.string key, .int .i64 bits] w fun e w' => (e = .returned (.slice (some ⟨w.heap.size, 0, none⟩) 6 6) ∧ Six w' w.heap.size (plc key.data.toList bits)) ∧ Below w.heap.size w w' :=
  rplaces_go key (keyA key.data.toList) (keyB key.data.toList) (keyA_lt _) (keyB_lt _) bits hb0 hb (fun w => Crc.refOf_any key (by unfold maxLen; omega) w) (fun w => by
    have h := Crc.refOf_any (key ++ ⟨#[7]⟩) (by rw [ByteArray.size_append]; unfold maxLen; show _ + 1 ≤ _; omega) w
    have e : (key ++ (⟨#[7]⟩ : ByteArray)).data.toList = key.data.toList ++ [7] := by simp
    rw [e] at h
    exact h) hs w
theorem rplaces_none (key : ByteArray) (bits : Int) (hb : bits < 1) (w : World) :
    Calls Try.prog 14 #[.string key, .int .i64 bits] w fun e w' => (e = .returned (.slice (some ⟨w.heap.size, 0, none⟩) 6 6) ∧ Six w' w.heap.size (fun _ => 0)) ∧ Below w.heap.size w w' := by
  go_enter Try.func14, Try.ntmps14
  go_wp2
  go_ret
  have h := heap_alloc_last w (.cells z6 3)
  refine ⟨⟨rfl, by simp, fun j hj => ?_⟩, (Below.refl _ w).alloc (Nat.le_refl _) _⟩
  exact (cell_of_row _ _ j z6 _ (0, 0) h).trans (z6_at j hj)
set_option maxRecDepth 100000 in
set_option maxHeartbeats 1000000 in
theorem rmay_go (F : ByteArray) (hF : F.size ≤ 100000) (h0 : 0 < F.size) (key : ByteArray) (P : Nat → Nat)
    (HP : ∀ w, Calls Try.prog 14 #[.string key, .int .i64 ((F.size : Int) * 8)] w fun e w' => (e = .returned (.slice (some ⟨w.heap.size, 0, none⟩) 6 6) ∧ Six w' w.heap.size P) ∧ Below w.heap.size w w')
    (hP : ∀ k, P k < F.size * 8)
    (r : Bool) (hno : ∀ k, k < 6 → has F.data.toList (P k) = false → r = false) (hyes : (∀ k, k < 6 → has F.data.toList (P k) = true) → r = true) (w : World) :
    Calls Try.prog 16 #[.string F, .string key] w fun e w' => e = .returned (.bool r) ∧ Below w.heap.size w w' := by
  have HP := Lib.hid HP
  have HPP := Lib.hid hP
  have HN := Lib.hid hno
  have HY := Lib.hid hyes
  clear hP hno hyes
  have hl : F.data.toList.length = F.size := by simp
  have HTA : Hid (∀ p, p < F.size * 8 → (truths F.data.toList)[p]? = some (has F.data.toList p)) := fun p hp => truths_at _ p (by rw [hl]; exact hp)
  have HT : Hid (∀ w, Calls Try.prog 8 #[.string F] w fun e w' => (∃ g cap, e = .returned (.slice (some ⟨g, 0, none⟩) (F.size * 8) cap) ∧ g < w'.heap.size ∧ ∀ p, p < F.size * 8 → w'.cell? ⟨g, p, none⟩ = some (.bool (has F.data.toList p))) ∧ Below w.heap.size w w') := fun w => by
    refine (truths_any F hF w).mono ?_
    rintro e w' ⟨⟨v, rfl, ho⟩, hb⟩
    obtain ⟨g, cap, rfl, hg, hg2⟩ := ho.form (by omega)
    refine ⟨⟨g, cap, rfl, hg2, fun p hp => ?_⟩, hb⟩
    rw [ho.cellAt p (by omega), bCells, List.getElem?_map, HTA.out p hp]; rfl
  have h8 : ((F.size : Int) * 8 == 0) = false := by rw [beq_eq_false_iff_ne]; omega
  clear hl
  go_enter Try.func16, Try.ntmps16
  go_wp2_with (first
    | (go_at_call 8; (with_reducible refine (HT.out _).mono ?_); rintro e w1 ⟨⟨g, cap, rfl, hg, hc⟩, hb1⟩; have HC1 := Lib.hid hc; have HB1 := Lib.hid hb1; clear hb1 hc)
    | (go_at_call 14; (with_reducible refine (HP.out _).mono ?_); rintro e w2 ⟨⟨rfl, hs2⟩, hb2⟩; have HC2 : Hid (∀ p, p < F.size * 8 → w2.cell? ⟨g, p, none⟩ = some (.bool (has F.data.toList p))) := (fun p hp => (hb2.cell (p := ⟨g, p, none⟩) hg).trans (HC1.out p hp)); have HS2 := Lib.hid hs2; have HB2 := Lib.hid (HB1.out.trans (hb2.mono HB1.out.size)); clear hb2 hs2))
  have hg2 : g < w2.heap.size := Nat.lt_of_lt_of_le hg (by
    have := HB2.out.size
    exact Nat.le_of_lt HS2.out.1)
  go_loop [18] (fun i => ∃ k : Nat, k ≤ 6 ∧ i = .int .i64 k ∧ ∀ j, j < k → has F.data.toList (P j) = true) (fun i => 6 - (intOf i).toNat)
  case atStart => exact ⟨0, by omega, rfl, fun j hj => by omega⟩
  case round =>
    obtain ⟨k, hk, rfl, hall⟩ := hrel
    have HALL := Lib.hid hall
    clear hall
    by_cases h6 : k < 6
    · have hc := HS2.out.2 k h6
      have hpk := HPP.out k
      have hN := Lib.hid (HN.out k h6)
      have hlast : Hid (has F.data.toList (P k) = true → ∀ j, j < k + 1 → has F.data.toList (P j) = true) := fun h j hj => by
        by_cases e : j = k
        · rw [e]; exact h
        · exact HALL.out j (by omega)
      have hd := HC2.out (P k) hpk
      generalize P k = p at *
      cases hh : has F.data.toList p with
      | false =>
        have hr := Lib.hid (hN.out hh)
        rw [hh] at hd
        clear hh
        go_wp2
        go_ret
        exact ⟨ret_bool hr.out.symm, HB2.out⟩
      | true =>
        have hl := Lib.hid (hlast.out hh)
        rw [hh] at hd
        clear hh
        go_wp2
        go_round
        case rel => exact ⟨k + 1, by omega, by go_num, hl.out⟩
        case measure => simp [intOf]; omega
    · go_wp2
      go_ret
      exact ⟨ret_bool (HY.out (fun j hj => HALL.out j (by omega))).symm, HB2.out⟩
theorem rmay_any (F key : ByteArray) (hF : F.size ≤ 100000) (h0 : 0 < F.size) (hk : key.size ≤ 1000000) (w : World) :
    Calls Try.prog 16 #[.string F, .string key] w fun e w' => e = .returned (.bool (may F.data.toList key.data.toList)) ∧ Below w.heap.size w w' := by
  have hl : F.data.toList.length = F.size := by simp
  refine rmay_go F hF h0 key (plc key.data.toList (F.size * 8)) (fun w => ?_) (fun k => plc_lt _ (by omega) k) _ (fun k hk h => ?_) (fun h => ?_) w
  · have := rplaces_any key hk (F.size * 8) (by omega) (by omega) w
    rw [show ((F.size * 8 : Nat) : Int) = (F.size : Int) * 8 by omega] at this
    exact this
  · exact may_no (by omega) k hk (by rw [hl]; exact h)
  · exact may_yes (fun i hi => by rw [hl]; exact h i hi)
theorem rmay_empty (key : ByteArray) (w : World) :
    Calls Try.prog 16 #[.string ⟨#[]⟩, .string key] w fun e w' => e = .returned (.bool true) ∧ Below w.heap.size w w' := by
  have HT : Hid (∀ w, Calls Try.prog 8 #[.string ⟨#[]⟩] w fun e w' => (∃ A c, e = .returned (.slice A 0 c)) ∧ Below w.heap.size w w') := fun w => by
    refine (truths_any ⟨#[]⟩ (by decide) w).mono ?_
    rintro e w' ⟨⟨v, rfl, ho⟩, hb⟩
    rcases ho.2 with ⟨rfl, _⟩ | ⟨g, cap, cur, rfl, _⟩
    · exact ⟨⟨_, _, rfl⟩, hb⟩
    · exact ⟨⟨_, _, rfl⟩, hb⟩
  go_enter Try.func16, Try.ntmps16
  go_wp2_with (first
    | (go_at_call 8; (with_reducible refine (HT.out _).mono ?_); rintro e w1 ⟨⟨A, c, rfl⟩, hb1⟩))
  go_ret
  exact ⟨rfl, hb1⟩
end Go.Proofs.Ytmgfgododhplpaa.Bl
