/-
  The Go text that lays records, walked: how long they are, and the record itself. Conditions: as each theorem states.
-/
import Derived.Test.YtdkgieaanpfhcaaGreatDoorFrB
import Derived.Deep.RegionHeld3
namespace Go.Proofs.YtdkgieaanpfhcaaGreatDoor
open Go.RowKit
open Vi

theorem flen_any (x : Int) (hl : -9223372036854775808 ≤ x) (hh : x ≤ 9223372036854775807) (n : Nat) (hn : n ≤ 1099511627776) (w : World) :
    Calls Tryz.prog 76 #[.int .i64 x, .int .i64 n] w fun e w' => e = .returned (.int .i64 ((gapOf x.toNat + n + 7 * (1 + (n - roomOf x.toNat + 504) / 505) : Nat) : Int)) ∧ w = w' := by
  have h1 := gapOf_le x.toNat
  have h2 := roomOf_le x.toNat
  have HN := Lib.hid (next_any x hl hh)
  generalize gapOf x.toNat = g at *
  generalize roomOf x.toNat = r at *
  go_enter Tryz.func76, Tryz.ntmps76
  go_wp2_with (go_at_call 77; refine (HN.out _).mono ?_; rintro e w1 ⟨rfl, rfl⟩)
  go_ret
  exact ⟨ret_int (by omega), rfl⟩
/-- A strings.Builder in memory. -/
def Bd (B b : Nat) (l : List UInt8) (w : World) : Prop := Lib.IsBuilder 118 5 B b (Lib.byteCells l) w
theorem bd_fresh (w : World) : Bd w.heap.size w.heap.size [] (w.alloc (.cells #[.pointer none, .slice none 0 0] 118)) := Lib.fresh_isBuilder _ _ w
theorem at_below {T e : TypeId} {B b : Nat} {p : Value} {l : List Value} {w w' : World} (h : Lib.BuilderAt T e B b p l w) (hb : Below w.heap.size w w') : Lib.BuilderAt T e B b p l w' := by
  have hlt := h.lt
  obtain ⟨hB, v, hv, hown, hne⟩ := h
  exact ⟨hB, v, (hb.block b hlt).trans hv, hown.kept (row := none) ⟨hb.os, hb.tape, hb.output, hb.size, fun k hk _ => hb.block k hk⟩ (Classical.em _), hne⟩
theorem bd_below {B b : Nat} {l : List UInt8} {w w' : World} (h : Bd B b l w) (hb : Below w.heap.size w w') : Bd B b l w' :=
  h.elim (fun x => .inl (at_below x hb)) (fun x => .inr (at_below x hb))
theorem bd_lt {B b : Nat} {l : List UInt8} {w : World} (h : Bd B b l w) : B ≤ b ∧ b < w.heap.size :=
  h.elim (fun x => ⟨x.1, x.lt⟩) (fun x => ⟨x.1, x.lt⟩)
theorem bd_write {B b : Nat} {l s : List UInt8} {w : World} (h : Bd B b l w) (hlen : l.length + s.length ≤ 140737488355328) :
    Calls Tryz.prog 69 #[.pointer (some ⟨b, 0, none⟩), .string (bs s)] w fun e w' => e = .returned (.tuple #[.int .i64 (bs s).size, .nilIface]) ∧ Bd B b (l ++ s) w' ∧ Below B w w' := by
  refine (Tryz.wrote_string B b _ (bs s) w h (by rw [Lib.byteCells_length, bs_size]; exact hlen) (by have := bd_lt h; omega)).mono ?_
  rintro e w' ⟨he, hb, hw⟩
  refine ⟨he, .inr ?_, hw⟩
  have e1 : Lib.byteCells (l ++ s) = Lib.byteCells l ++ Lib.strCells (bs s) := by rw [Lib.strCells_eq, bs_toList]; simp [Lib.byteCells]
  rw [e1]; exact hb
theorem bd_string {B b : Nat} {l : List UInt8} {w : World} (h : Bd B b l w) :
    Calls Tryz.prog 74 #[.pointer (some ⟨b, 0, none⟩)] w fun e w' => e = .returned (.string (bs l)) ∧ Below B w w' :=
  Tryz.Builder_String_any B b l w h (by have := bd_lt h; omega)
theorem bd_grow (w : World) {x : Int} {k : Nat} (hx : x = k) (hk : k ≤ 281474976710656) :
    Calls Tryz.prog 75 #[.pointer (some ⟨w.heap.size, 0, none⟩), .int .i64 x] (w.alloc (.cells #[.pointer none, .slice none 0 0] 118)) fun e w' => e = .returned (.tuple #[]) ∧ Bd w.heap.size w.heap.size [] w' ∧ Below w.heap.size w w' := by
  subst hx
  refine (Tryz.Builder_Grow_fresh w.heap.size w.heap.size k _ (Nat.le_refl _) (heap_alloc_last w _) (by simp) hk).mono ?_
  rintro e w' ⟨he, hb, hw⟩
  exact ⟨he, .inr hb, ((Below.refl _ _).alloc (Nat.le_refl _) _).trans hw⟩
theorem bs_take (l : List UInt8) (n : Nat) : (bs l).extract 0 n = bs (l.take n) := by
  apply ByteArray.ext
  simp [bs, ByteArray.data_extract]
theorem bs_drop (l : List UInt8) (n : Nat) : (bs l).extract n l.length = bs (l.drop n) := by
  apply ByteArray.ext
  simp [bs, ByteArray.data_extract, List.take_of_length_le]
theorem noughts (a : Nat) : ({ data := #[0, 0, 0, 0, 0, 0] } : ByteArray).extract 0 (gapOf a) = bs (List.replicate (gapOf a) 0) := by
  have h := gapOf_le a
  generalize gapOf a = g at *
  match g, h with
  | 0, _ => rfl
  | 1, _ => rfl
  | 2, _ => rfl
  | 3, _ => rfl
  | 4, _ => rfl
  | 5, _ => rfl
  | 6, _ => rfl
def FlJ (x : Int) (T : List UInt8) (w : World) (a' : Act) (w' : World) : Prop :=
  ∃ (r l : List UInt8) (u6 u9 u10 u11 u12 u13 u14 u15 u16 u17 u18 u19 u20 u21 u22 u23 u24 u25 u26 u27 u28 u29 u30 u31 u32 u33 u34 u35 u36 u37 u38 u39 u40 u41 u42 u43 u44 u45 : Value), l ++ layGo true 505 r = T ∧ Bd w.heap.size w.heap.size l w' ∧ Below w.heap.size w w' ∧
    a' = { tmps := #[.int .i64 x, .string (bs r), undef, undef, .string ⟨#[]⟩, .pointer (some ⟨w.heap.size, 0, none⟩), u6, .int .i64 505, .bool true, u9, u10, u11, u12, u13, u14, u15, u16, u17, u18, u19, u20, u21, u22, u23, u24, u25, u26, u27, u28, u29, u30, u31, u32, u33, u34, u35, u36, u37, u38, u39, u40, u41, u42, u43, u44, u45], defers := [] }
def strLen : Value → Nat
  | .string s => s.size
  | _ => 0
def flMu (a' : Act) : Nat := strLen (a'.tmps.getD 1 undef)
theorem fl_write {B b : Nat} {l s u T : List UInt8} {w1 : World} (HT : Hid (T.length ≤ 1099511627776)) (hl : Hid (l ++ (s ++ u) = T)) (h : Bd B b l w1) :
    Calls Tryz.prog 69 #[.pointer (some ⟨b, 0, none⟩), .string (bs s)] w1 fun e w' => e = .returned (.tuple #[.int .i64 (bs s).size, .nilIface]) ∧ Bd B b (l ++ s) w' ∧ Below B w1 w' :=
  bd_write h (by have := HT.out; rw [← hl.out] at this; simp at this; omega)
theorem piece_bd {B b : Nat} {l : List UInt8} (k : Nat) (hk : k < 256) (s : List UInt8) (hs : Hid (s.length ≤ 65535)) {w : World} (h : Bd B b l w) :
    Calls Tryz.prog 78 #[.int .u8 k, .string (bs s)] w fun e w' => e = .returned (.string (bs (pce k s))) ∧ Bd B b l w' ∧ Below B w w' := by
  refine (piece_any k hk s hs.out w).mono ?_
  rintro e w' ⟨he, hw⟩
  exact ⟨he, bd_below h hw, hw.mono (by have := bd_lt h; omega)⟩
theorem below_drew (B : Nat) (w : World) : Below B w w.drew := ⟨rfl, rfl, rfl, Nat.le_refl _, fun _ _ => rfl⟩
theorem bd_drew {B b : Nat} {l : List UInt8} {w : World} (h : Bd B b l w) : Bd B b l w.drew := h
theorem kind_lt (b e : Bool) : kindOf b e < 256 := by have := kindOf_lt b e; omega
set_option maxHeartbeats 1000000 in
theorem flay_any (x : Int) (hl : -9223372036854775808 ≤ x) (hh : x ≤ 9223372036854775807) (r0 : List UInt8) (hr : r0.length ≤ 1073741824) (w : World) :
    Calls Tryz.prog 37 #[.int .i64 x, .string (bs r0)] w fun e w' => e = .returned (.string (bs (lay x.toNat r0))) ∧ Below w.heap.size w w' := by
  have hg := gapOf_le x.toNat
  have hro := roomOf_le x.toNat
  have HT : Hid ((lay x.toNat r0).length ≤ 1099511627776) := by rw [Hid, lay_len]; omega
  have HL := Lib.hid (flen_any x hl hh r0.length (by omega))
  have HK : Hid (gapOf x.toNat + r0.length + 7 * (1 + (r0.length - roomOf x.toNat + 504) / 505) ≤ 281474976710656) := by rw [Hid]; omega
  have HN := Lib.hid (next_any x hl hh)
  have hbz := bs_size
  have hno := noughts x.toNat
  have hbt := bs_take
  have hbd := bs_drop
  go_enter Tryz.func37, Tryz.ntmps37
  go_wp2
  refine wp_scope_jumps 0 (FlJ x (lay x.toNat r0) w) (fun a' _ => flMu a') rfl ?_ ?_
  · by_cases hc : r0.length ≤ roomOf x.toNat
    · have hmn : min (r0.length : Int) (roomOf x.toNat) = r0.length := by omega
      have htk : r0.take r0.length = r0 := List.take_length
      have HE1 : Hid ([] ++ (List.replicate (gapOf x.toNat) 0 ++ layGo false (roomOf x.toNat) r0) = lay x.toNat r0) := by rw [Hid, lay]; rfl
      have HE2 : Hid (([] ++ List.replicate (gapOf x.toNat) 0) ++ (pce (kindOf false true) r0 ++ []) = lay x.toNat r0) := by rw [Hid]; unfold lay; rw [layGo_last hc]; simp
      have HP : Hid (r0.length ≤ 65535) := by rw [Hid]; omega
      go_wp2_with (first
      | (go_at_call 76; refine (HL.out _).mono ?_; rintro e w1 ⟨rfl, rfl⟩)
      | (go_at_call 75; refine (bd_grow w (by omega) HK.out).mono ?_; rintro e w1 ⟨rfl, hb1, hw1⟩)
      | (go_at_call 77; refine (HN.out _).mono ?_; rintro e w2 ⟨rfl, rfl⟩)
      | (go_at_call 69; (with_reducible refine (fl_write HT HE1 hb1).mono ?_); rintro e w2 ⟨rfl, hb2, hw2⟩))
      go_step3
      go_wp2
      go_region_held3 (fun _ => True) (trivial)
        (first
          | (go_at_call 79; refine (kind_any _ _ _).mono ?_; rintro e w3 ⟨rfl, rfl⟩)
          | (go_at_call 78; (with_reducible first | refine (piece_bd _ (kind_lt _ _) _ HP (bd_drew hb2)).mono ?_ | refine (piece_bd _ (kind_lt _ _) _ HP hb2).mono ?_); rintro e w4 ⟨rfl, hb4, hw4⟩)
          | (go_at_call 69; (with_reducible first | refine (fl_write HT HE2 hb4).mono ?_ | refine (fl_write HT HE2 (bd_drew hb4)).mono ?_); rintro e w5 ⟨rfl, hb5, hw5⟩))
      go_wp2_with (first
        | (go_at_call 74; refine (bd_string hb5).mono ?_; rintro e w6 ⟨rfl, hw6⟩))
      simp only [Exit.jump]
      go_ret
      refine ⟨ret_str ?_, (hw1.trans hw2).trans ((below_drew _ _).trans (hw4.trans (hw5.trans hw6)))⟩
      rw [← HE2.out, List.append_nil]; rfl
    · have hmn : min (r0.length : Int) (roomOf x.toNat) = roomOf x.toNat := by omega
      have hq1 : (0 : Int) ≤ (roomOf x.toNat : Int) := by omega
      have hq2 : (roomOf x.toNat : Int) ≤ (r0.length : Int) := by omega
      have hq3 : roomOf x.toNat ≤ r0.length := by omega
      have hq4 : ((roomOf x.toNat : Int) == (r0.length : Int)) = false := by simp; omega
      have HE1 : Hid ([] ++ (List.replicate (gapOf x.toNat) 0 ++ layGo false (roomOf x.toNat) r0) = lay x.toNat r0) := by rw [Hid, lay]; rfl
      have HE2 : Hid (([] ++ List.replicate (gapOf x.toNat) 0) ++ (pce (kindOf false false) (r0.take (roomOf x.toNat)) ++ layGo true 505 (r0.drop (roomOf x.toNat))) = lay x.toNat r0) := by rw [Hid]; unfold lay; rw [layGo_more (b := false) (room := roomOf x.toNat) (r := r0) (by omega)]; simp
      have HP : Hid ((r0.take (roomOf x.toNat)).length ≤ 65535) := by rw [Hid, List.length_take]; omega
      go_wp2_with (first
      | (go_at_call 76; refine (HL.out _).mono ?_; rintro e w1 ⟨rfl, rfl⟩)
      | (go_at_call 75; refine (bd_grow w (by omega) HK.out).mono ?_; rintro e w1 ⟨rfl, hb1, hw1⟩)
      | (go_at_call 77; refine (HN.out _).mono ?_; rintro e w2 ⟨rfl, rfl⟩)
      | (go_at_call 69; (with_reducible refine (fl_write HT HE1 hb1).mono ?_); rintro e w2 ⟨rfl, hb2, hw2⟩))
      go_step3
      go_wp2
      go_region_held3 (fun _ => True) (trivial)
        (first
          | (go_at_call 79; refine (kind_any _ _ _).mono ?_; rintro e w3 ⟨rfl, rfl⟩)
          | (go_at_call 78; (with_reducible first | refine (piece_bd _ (kind_lt _ _) _ HP (bd_drew hb2)).mono ?_ | refine (piece_bd _ (kind_lt _ _) _ HP hb2).mono ?_); rintro e w4 ⟨rfl, hb4, hw4⟩)
          | (go_at_call 69; (with_reducible first | refine (fl_write HT HE2 hb4).mono ?_ | refine (fl_write HT HE2 (bd_drew hb4)).mono ?_); rintro e w5 ⟨rfl, hb5, hw5⟩))
      go_wp2_with (first
        | (go_at_call 74; refine (bd_string hb5).mono ?_; rintro e w6 ⟨rfl, hw6⟩))
      go_step3
      refine ⟨rfl, r0.drop (roomOf x.toNat), _, _, _, _, _, _, _, _, _, _, _, _, _, _, _, _, _, _, _, _, _, _, _, _, _, _, _, _, _, _, _, _, _, _, _, _, _, _, _, ?_, hb5, (hw1.trans hw2).trans ((below_drew _ _).trans (hw4.trans hw5)), rfl⟩
      rw [List.append_assoc]; exact HE2.out
  · rintro a' w2 ⟨r, l, u6, u9, u10, u11, u12, u13, u14, u15, u16, u17, u18, u19, u20, u21, u22, u23, u24, u25, u26, u27, u28, u29, u30, u31, u32, u33, u34, u35, u36, u37, u38, u39, u40, u41, u42, u43, u44, u45, hl2, hb2, hw2, rfl⟩
    have HL2 := Lib.hid hl2
    clear hl2
    have hrl : r.length ≤ 1099511627776 := by
      have h1 := HT.out
      rw [← HL2.out, List.length_append, layGo_len _ r true 505 (Nat.le_refl _)] at h1
      omega
    by_cases hc : r.length ≤ 505
    · have hmn : min (r.length : Int) 505 = r.length := by omega
      have htk : r.take r.length = r := List.take_length
      have HE2 : Hid (l ++ (pce (kindOf true true) r ++ []) = lay x.toNat r0) := by rw [Hid, ← HL2.out, layGo_last hc, List.append_nil]
      have HP : Hid (r.length ≤ 65535) := by rw [Hid]; omega
      go_wp2
      go_region_held3 (fun _ => True) (trivial)
        (first
          | (go_at_call 79; refine (kind_any _ _ _).mono ?_; rintro e w3 ⟨rfl, rfl⟩)
          | (go_at_call 78; (with_reducible first | refine (piece_bd _ (kind_lt _ _) _ HP (bd_drew hb2)).mono ?_ | refine (piece_bd _ (kind_lt _ _) _ HP hb2).mono ?_); rintro e w4 ⟨rfl, hb4, hw4⟩)
          | (go_at_call 69; (with_reducible first | refine (fl_write HT HE2 hb4).mono ?_ | refine (fl_write HT HE2 (bd_drew hb4)).mono ?_); rintro e w5 ⟨rfl, hb5, hw5⟩))
      go_wp2_with (first
        | (go_at_call 74; refine (bd_string hb5).mono ?_; rintro e w6 ⟨rfl, hw6⟩))
      simp only [Exit.jump]
      go_ret
      refine ⟨ret_str ?_, hw2.trans ((below_drew _ _).trans (hw4.trans (hw5.trans hw6)))⟩
      rw [← HE2.out, List.append_nil]
    · have hmn : min (r.length : Int) 505 = 505 := by omega
      have hq2 : (505 : Int) ≤ (r.length : Int) := by omega
      have hq3 : 505 ≤ r.length := by omega
      have hq4 : ((505 : Int) == (r.length : Int)) = false := by simp; omega
      have HE2 : Hid (l ++ (pce (kindOf true false) (r.take 505) ++ layGo true 505 (r.drop 505)) = lay x.toNat r0) := by rw [Hid, ← HL2.out, ← layGo_more (b := true) (room := 505) (r := r) (by omega)]
      have HP : Hid ((r.take 505).length ≤ 65535) := by rw [Hid, List.length_take]; omega
      go_wp2
      go_region_held3 (fun _ => True) (trivial)
        (first
          | (go_at_call 79; refine (kind_any _ _ _).mono ?_; rintro e w3 ⟨rfl, rfl⟩)
          | (go_at_call 78; (with_reducible first | refine (piece_bd _ (kind_lt _ _) _ HP (bd_drew hb2)).mono ?_ | refine (piece_bd _ (kind_lt _ _) _ HP hb2).mono ?_); rintro e w4 ⟨rfl, hb4, hw4⟩)
          | (go_at_call 69; (with_reducible first | refine (fl_write HT HE2 hb4).mono ?_ | refine (fl_write HT HE2 (bd_drew hb4)).mono ?_); rintro e w5 ⟨rfl, hb5, hw5⟩))
      go_wp2_with (first
        | (go_at_call 74; refine (bd_string hb5).mono ?_; rintro e w6 ⟨rfl, hw6⟩))
      go_step3
      refine ⟨rfl, ⟨r.drop 505, _, _, _, _, _, _, _, _, _, _, _, _, _, _, _, _, _, _, _, _, _, _, _, _, _, _, _, _, _, _, _, _, _, _, _, _, _, _, _, ?_, hb5, hw2.trans ((below_drew _ _).trans (hw4.trans hw5)), rfl⟩, ?_⟩
      · rw [List.append_assoc]; exact HE2.out
      · show (bs (r.drop 505)).size < (bs r).size
        rw [bs_size, bs_size, List.length_drop]; omega
end Go.Proofs.YtdkgieaanpfhcaaGreatDoor
