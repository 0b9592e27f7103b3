/-
  The Go text that reads a piece of a log, walked. Conditions: as each theorem states.
-/
import Derived.Test.YtdkgieaanpfhcaaGreatDoorFrC
import Derived.Test.YtdkgieaanpfhcaaGreatDoorGaF
namespace Go.Proofs.YtdkgieaanpfhcaaGreatDoor
open Go.RowKit
open Vi

theorem ret_four (k n : Int) (s : ByteArray) (b : Bool) : Ending.returned (.tuple #[.int .u8 k, .string s, .int .i64 n, .bool b]) = .returned (.tuple #[.int .u8 k, .string s, .int .i64 n, .bool b]) := rfl
theorem results_tmp4 {fn : Func} {t u v x : Tmp} (h : fn.results = #[.tmp t, .tmp u, .tmp v, .tmp x]) (tmps : Array Value) (P : Program) (w : World) :
    (results fn tmps).run P w = .ok (.tuple #[tmps.getD t undef, tmps.getD u undef, tmps.getD v undef, tmps.getD x undef]) w := by
  simp [results, h]
theorem below_grown {B : Nat} {w w1 w2 : World} {a : Nat} (h : Below B w w1) (hg : w1.grownBy w2 (some a)) (hB : B ≤ w1.heap.size) (ha : B ≤ a) : Below B w w2 :=
  h.trans ⟨hg.os, hg.tape, hg.output, hg.size, fun k hk => hg.block k (by omega) (fun e => by injection e with e; omega)⟩
theorem fixed_rd {w : World} {a : Nat} {V B : List UInt8} {at_ a1 : Nat} {err e1 : Int} (h : Hid (RdAt 149 w a (bs V) at_ err)) (hV : V.length ≤ 1000000) (ha : at_ ≤ V.length) (hd : dTake V at_ err 4 = (B, a1, e1)) :
    Calls Tryz.prog 132 #[.pointer (some ⟨a, 0, none⟩)] w fun e w' => e = .returned (.int .u32 (big B)) ∧ RdAt 149 w' a (bs V) a1 e1 ∧ w.grownBy w' (some a) := by
  have := rfixed_any h.out (by rw [bs_size]; exact hV) (by rw [bs_size]; exact ha)
  rw [bs_toList, hd] at this
  exact this
theorem take_rd {w : World} {a : Nat} {V B : List UInt8} {at_ a1 : Nat} {err e1 n : Int} (h : Hid (RdAt 149 w a (bs V) at_ err)) (hV : V.length ≤ 1000000) (ha : at_ ≤ V.length) (hd : dTake V at_ err n = (B, a1, e1)) :
    Calls Tryz.prog 99 #[.pointer (some ⟨a, 0, none⟩), .int .i64 n] w fun e w' => e = .returned (.string (bs B)) ∧ RdAt 149 w' a (bs V) a1 e1 ∧ w.grownBy w' (some a) := by
  have := take_any n h.out (by rw [bs_size]; exact hV) (by rw [bs_size]; exact ha)
  rw [bs_toList, hd] at this
  exact this
theorem rd_dr {t : TypeId} {w : World} {a : Nat} {s : ByteArray} {at_ : Nat} {err : Int} (h : Hid (RdAt t w a s at_ err)) : Hid (RdAt t w.drew a s at_ err) := h
theorem err_rd {w : World} {a : Nat} {s : ByteArray} {at_ : Nat} {err : Int} (h : Hid (RdAt 149 w a s at_ err)) :
    Calls Tryz.prog 62 #[.pointer (some ⟨a, 0, none⟩)] w fun e w' => e = .returned (.int .i64 err) ∧ w = w' := err_any h.out
theorem at_rd {w : World} {a : Nat} {s : ByteArray} {at_ : Nat} {err : Int} (h : Hid (RdAt 149 w a s at_ err)) :
    Calls Tryz.prog 134 #[.pointer (some ⟨a, 0, none⟩)] w fun e w' => e = .returned (.int .i64 at_) ∧ w = w' := at_any h.out
theorem slice_in {L V : List UInt8} {p g E : Nat} (h1 : p + g ≤ E) (h2 : E ≤ L.length) (HV : (bs L).extract (p + g) E = bs V) (W : World) :
    (Instr.slice 9 (.string (bs L)) (some (.int .i64 ((p : Int) + (g : Int)))) (some (.int .i64 (E : Int))) none).run Tryz.prog W = .ok (.string (bs V)) W := by
  rw [run_slice_string _ _ _ _ _ _ _ Tryz.underlying9 (by omega) (by omega) (by rw [bs_size]; omega), show ((p : Int) + (g : Int)).toNat = p + g by omega, show (E : Int).toNat = E by omega, HV]
theorem hasPrefix_bs (a b : List UInt8) (t : Bool) (h : Lib.hasPrefix a b = t) (w : World) :
    Calls Tryz.prog 131 #[.string (bs a), .string (bs b)] w fun e w' => e = .returned (.bool t) ∧ w = w' := by
  have := Tryz.strings_HasPrefix (bs a) (bs b) w
  refine this.mono ?_
  rintro e w' ⟨he, hw⟩
  subst h
  exact ⟨he, hw.symm⟩
theorem bs_cut (l : List UInt8) (a b : Nat) : (bs l).extract a b = bs ((l.drop a).take (b - a)) := by
  apply ByteArray.ext
  simp [bs, ByteArray.data_extract]
theorem pieceAt_gap (L : List UInt8) (p : Nat) (hL : L.length ≤ 1000000) (hp : p ≤ L.length) (HP : Hid (Lib.hasPrefix (L.drop p) (List.replicate (gapOf p) 0) = false)) (w : World) :
    Calls Tryz.prog 95 #[.string (bs L), .int .i64 p] w fun e w' => e = .returned (.tuple #[.int .u8 0, .string ⟨#[]⟩, .int .i64 0, .bool false]) ∧ Below w.heap.size w w' := by
  have hg := gapOf_le p
  have hro := roomOf_le p
  have hbz := bs_size
  have hno := noughts p
  have hbd := bs_drop
  have HN := Lib.hid (next_nat p (by omega))
  have hq1 : (p : Int) ≤ (L.length : Int) := by omega
  have hq2 : (0 : Int) ≤ (gapOf p : Int) := by omega
  have hq6 : (gapOf p : Int) ≤ 6 := by omega
  go_enter Tryz.func95, Tryz.ntmps95
  go_wp2_with (first | (go_at_call 77; refine (HN.out _).mono ?_; rintro e w1 ⟨rfl, rfl⟩))
  go_region_held3 (fun _ => True) (trivial)
    (first
      | (go_at_call 131; (with_reducible refine (hasPrefix_bs _ _ _ HP.out _).mono ?_); rintro e w2 ⟨rfl, rfl⟩))
  go_wp2
  refine bodyPost_ret (results_tmp4 rfl _ _ _) rfl ?_
  exact ⟨rfl, below_drew _ _⟩
set_option maxHeartbeats 1000000 in
theorem pieceAt_short (L : List UInt8) (p : Nat) (hL : L.length ≤ 1000000) (hp : p + gapOf p ≤ L.length) (HP : Hid (Lib.hasPrefix (L.drop p) (List.replicate (gapOf p) 0) = true)) (V : List UInt8) (E : Nat) (hE : min ((p : Int) + gapOf p + 7 + roomOf p) L.length = E) (hE1 : p + gapOf p ≤ E) (hE2 : E ≤ L.length)
    (HV : (bs L).extract (p + gapOf p) E = bs V) (hVl : V.length ≤ 1000000) (B1 B2 : List UInt8) (a1 a2 : Nat) (e1 e2 : Int) (d1 : dTake V 0 0 4 = (B1, a1, e1)) (d2 : dTake V a1 e1 2 = (B2, a2, e2)) (ha1 : a1 ≤ V.length) (he : (e2 != 0) = true) (w : World) :
    Calls Tryz.prog 95 #[.string (bs L), .int .i64 p] w fun e w' => e = .returned (.tuple #[.int .u8 0, .string ⟨#[]⟩, .int .i64 0, .bool false]) ∧ Below w.heap.size w w' := by
  have hg := gapOf_le p
  have hro := roomOf_le p
  have hbz := bs_size
  have hno := noughts p
  have hbd := bs_drop
  have HN := Lib.hid (next_nat p (by omega))
  have hq1 : (p : Int) ≤ (L.length : Int) := by omega
  have hq2 : (0 : Int) ≤ (gapOf p : Int) := by omega
  have hq6 : (gapOf p : Int) ≤ 6 := by omega
  have hq3 : (p : Int) + (gapOf p : Int) ≤ (E : Int) := by omega
  have hq4 : (E : Int) ≤ (L.length : Int) := by omega
  have hsl := slice_in hE1 hE2 HV
  go_enter Tryz.func95, Tryz.ntmps95
  go_wp2_with (first | (go_at_call 77; refine (HN.out _).mono ?_; rintro e w1 ⟨rfl, rfl⟩))
  go_region_held3 (fun _ => True) (trivial)
    (first
      | (go_at_call 131; (with_reducible refine (hasPrefix_bs _ _ _ HP.out _).mono ?_); rintro e w2 ⟨rfl, rfl⟩))
  go_wp2_with (first
    | (go_at_call 58; refine (over_any _ _).mono ?_; rintro e w3 ⟨rfl, h3, b3⟩; have H3 : Hid (RdAt 149 w3 w.heap.size (bs V) 0 0) := h3; clear h3; have bb3 := (below_drew w.heap.size w).trans b3)
    | (go_at_call 132; refine (fixed_rd H3 hVl (by omega) d1).mono ?_; rintro e w4 ⟨rfl, h4, g4⟩; have H4 := Lib.hid h4; clear h4; have bb4 := below_grown bb3 g4 bb3.size (Nat.le_refl _))
    | (go_at_call 99; (with_reducible refine (take_rd H4 hVl ha1 d2).mono ?_); rintro e w5 ⟨rfl, h5, g5⟩; have H5 := Lib.hid h5; clear h5; have bb5 := below_grown bb4 g5 bb4.size (Nat.le_refl _))
    | (go_at_call 62; refine (err_rd H5).mono ?_; rintro e w6 ⟨rfl, rfl⟩))
  refine bodyPost_ret (results_tmp4 rfl _ _ _) rfl ?_
  exact ⟨rfl, bb5⟩
theorem bs_get2 (c d : UInt8) : (bs [c, d]).size = 2 := rfl
set_option maxHeartbeats 1000000 in
theorem pieceAt_long (L : List UInt8) (p : Nat) (hL : L.length ≤ 1000000) (hp : p + gapOf p ≤ L.length) (HP : Hid (Lib.hasPrefix (L.drop p) (List.replicate (gapOf p) 0) = true)) (V : List UInt8) (E : Nat) (hE : min ((p : Int) + gapOf p + 7 + roomOf p) L.length = E) (hE1 : p + gapOf p ≤ E) (hE2 : E ≤ L.length)
    (HV : (bs L).extract (p + gapOf p) E = bs V) (hVl : V.length ≤ 1000000) (B1 S : List UInt8) (c d : UInt8) (a1 a3 : Nat) (e1 e3 : Int) (d1 : dTake V 0 0 4 = (B1, a1, e1)) (d2 : dTake V a1 e1 2 = ([c, d], 6, 0)) (ha1 : a1 ≤ V.length) (ha6 : 6 ≤ V.length)
    (d3 : dTake V 6 0 (1 + (c.toNat : Int) + (d.toNat : Int) * 256) = (S, a3, e3)) (he : (e3 != 0) = true) (w : World) :
    Calls Tryz.prog 95 #[.string (bs L), .int .i64 p] w fun e w' => e = .returned (.tuple #[.int .u8 0, .string ⟨#[]⟩, .int .i64 0, .bool false]) ∧ Below w.heap.size w w' := by
  have hg := gapOf_le p
  have hro := roomOf_le p
  have hbz := bs_size
  have hno := noughts p
  have hbd := bs_drop
  have HN := Lib.hid (next_nat p (by omega))
  have hq1 : (p : Int) ≤ (L.length : Int) := by omega
  have hq2 : (0 : Int) ≤ (gapOf p : Int) := by omega
  have hq6 : (gapOf p : Int) ≤ 6 := by omega
  have hq3 : (p : Int) + (gapOf p : Int) ≤ (E : Int) := by omega
  have hq4 : (E : Int) ≤ (L.length : Int) := by omega
  have hsl := slice_in hE1 hE2 HV
  have hc := c.toNat_lt
  have hd := d.toNat_lt
  have hbi := bs_get2 c d
  have hx0 : ∀ h, (bs [c, d])[0]'h = c := fun _ => rfl
  have hx1 : ∀ h, (bs [c, d])[1]'h = d := fun _ => rfl
  have hw1 : IntKind.i64.wrap (c.toNat : Int) = c.toNat := IntWalk.i64_in _ (by omega)
  have hw2 : IntKind.i64.wrap (d.toNat : Int) = d.toNat := IntWalk.i64_in _ (by omega)
  have hw3 : IntKind.i64.wrap (1 + (c.toNat : Int)) = 1 + c.toNat := IntWalk.i64_in _ (by omega)
  have hw4 : IntKind.i64.wrap ((d.toNat : Int) * 256) = d.toNat * 256 := IntWalk.i64_in _ (by omega)
  have hw5 : IntKind.i64.wrap (1 + (c.toNat : Int) + (d.toNat : Int) * 256) = 1 + c.toNat + d.toNat * 256 := IntWalk.i64_in _ (by omega)
  go_enter Tryz.func95, Tryz.ntmps95
  go_wp2_with (first | (go_at_call 77; refine (HN.out _).mono ?_; rintro e w1 ⟨rfl, rfl⟩))
  go_region_held3 (fun _ => True) (trivial)
    (first
      | (go_at_call 131; (with_reducible refine (hasPrefix_bs _ _ _ HP.out _).mono ?_); rintro e w2 ⟨rfl, rfl⟩))
  go_wp2_with (first
    | (go_at_call 58; refine (over_any _ _).mono ?_; rintro e w3 ⟨rfl, h3, b3⟩; have H3 : Hid (RdAt 149 w3 w.heap.size (bs V) 0 0) := h3; clear h3; have bb3 := (below_drew w.heap.size w).trans b3)
    | (go_at_call 132; refine (fixed_rd H3 hVl (by omega) d1).mono ?_; rintro e w4 ⟨rfl, h4, g4⟩; have H4 := Lib.hid h4; clear h4; have bb4 := below_grown bb3 g4 bb3.size (Nat.le_refl _))
    | (go_at_call 99; (with_reducible refine (take_rd H4 hVl ha1 d2).mono ?_); rintro e w5 ⟨rfl, h5, g5⟩; have H5 := Lib.hid h5; clear h5; have bb5 := below_grown bb4 g5 bb4.size (Nat.le_refl _))
    | (go_at_call 62; refine (err_rd H5).mono ?_; rintro e w6 ⟨rfl, rfl⟩))
  go_region_held3 (fun _ => True) (trivial)
    (first
      | (go_at_call 99; (with_reducible first | refine (take_rd (rd_dr H5) hVl ha6 d3).mono ?_ | refine (take_rd H5 hVl ha6 d3).mono ?_); rintro e w7 ⟨rfl, h7, g7⟩; have H7 := Lib.hid h7; clear h7; have bb7 := below_grown ((bb5.trans (below_drew _ _))) g7 (by have := bb5.size; exact this) (Nat.le_refl _)))
  all_goals
    go_wp2_with (first | (go_at_call 62; (with_reducible refine (err_rd H7).mono ?_); rintro e w8 ⟨rfl, rfl⟩))
    refine bodyPost_ret (results_tmp4 rfl _ _ _) rfl ?_
    exact ⟨rfl, bb7⟩
theorem bs_cons (k : UInt8) (T : List UInt8) : (bs (k :: T)).size = T.length + 1 := by rw [bs_size]; rfl
theorem bs_tail (k : UInt8) (T : List UInt8) : (bs (k :: T)).extract 1 (T.length + 1) = bs T := by
  have := bs_drop (k :: T) 1
  simpa using this
theorem rd_below {t : TypeId} {w w' : World} {a : Nat} {s : ByteArray} {at_ : Nat} {err : Int} (h : Hid (RdAt t w a s at_ err)) (hb : Below w.heap.size w w') : Hid (RdAt t w' a s at_ err) :=
  rd_kept h.out (grown_below hb none) (by simp)
theorem whole_yes_bs (S : List UInt8) (hs : (bs S).size ≤ maxLen) (n : Nat) (hn : Crc.mask (Crc.ofL S) = n) (w : World) :
    Calls Tryz.prog 133 #[.string (bs S), .int .u32 n] w fun e w' => e = .returned (.bool true) ∧ Below w.heap.size w w' := Crc.whole_yes (bs S) hs n hn w
theorem whole_no_bs (S : List UInt8) (hs : (bs S).size ≤ maxLen) (n : Nat) (hn : ¬ Crc.mask (Crc.ofL S) = n) (w : World) :
    Calls Tryz.prog 133 #[.string (bs S), .int .u32 n] w fun e w' => e = .returned (.bool false) ∧ Below w.heap.size w w' := Crc.whole_no (bs S) hs n hn w
set_option maxHeartbeats 1000000 in
theorem pieceAt_sum (L : List UInt8) (p : Nat) (hL : L.length ≤ 1000000) (hp : p + gapOf p ≤ L.length) (HP : Hid (Lib.hasPrefix (L.drop p) (List.replicate (gapOf p) 0) = true)) (V : List UInt8) (E : Nat) (hE : min ((p : Int) + gapOf p + 7 + roomOf p) L.length = E) (hE1 : p + gapOf p ≤ E) (hE2 : E ≤ L.length)
    (HV : (bs L).extract (p + gapOf p) E = bs V) (hVl : V.length ≤ 1000000) (B1 S : List UInt8) (c d : UInt8) (a1 a3 : Nat) (e1 e3 : Int) (d1 : dTake V 0 0 4 = (B1, a1, e1)) (d2 : dTake V a1 e1 2 = ([c, d], 6, 0)) (ha1 : a1 ≤ V.length) (ha6 : 6 ≤ V.length)
    (d3 : dTake V 6 0 (1 + (c.toNat : Int) + (d.toNat : Int) * 256) = (S, a3, e3)) (k : UInt8) (T : List UInt8) (hS : S = k :: T) (hTl : T.length ≤ 1000000) (he : e3 = 0) (HW : Hid (¬ Crc.mask (Crc.ofL S) = big B1)) (w : World) :
    Calls Tryz.prog 95 #[.string (bs L), .int .i64 p] w fun e w' => e = .returned (.tuple #[.int .u8 0, .string ⟨#[]⟩, .int .i64 0, .bool false]) ∧ Below w.heap.size w w' := by
  have hg := gapOf_le p
  have hro := roomOf_le p
  have hbz := bs_size
  have hno := noughts p
  have hbd := bs_drop
  have HN := Lib.hid (next_nat p (by omega))
  have hq1 : (p : Int) ≤ (L.length : Int) := by omega
  have hq2 : (0 : Int) ≤ (gapOf p : Int) := by omega
  have hq6 : (gapOf p : Int) ≤ 6 := by omega
  have hq3 : (p : Int) + (gapOf p : Int) ≤ (E : Int) := by omega
  have hq4 : (E : Int) ≤ (L.length : Int) := by omega
  have hsl := slice_in hE1 hE2 HV
  have hc := c.toNat_lt
  have hd := d.toNat_lt
  have hbi := bs_get2 c d
  have hx0 : ∀ h, (bs [c, d])[0]'h = c := fun _ => rfl
  have hx1 : ∀ h, (bs [c, d])[1]'h = d := fun _ => rfl
  have hw1 : IntKind.i64.wrap (c.toNat : Int) = c.toNat := IntWalk.i64_in _ (by omega)
  have hw2 : IntKind.i64.wrap (d.toNat : Int) = d.toNat := IntWalk.i64_in _ (by omega)
  have hw3 : IntKind.i64.wrap (1 + (c.toNat : Int)) = 1 + c.toNat := IntWalk.i64_in _ (by omega)
  have hw4 : IntKind.i64.wrap ((d.toNat : Int) * 256) = d.toNat * 256 := IntWalk.i64_in _ (by omega)
  have hw5 : IntKind.i64.wrap (1 + (c.toNat : Int) + (d.toNat : Int) * 256) = 1 + c.toNat + d.toNat * 256 := IntWalk.i64_in _ (by omega)
  subst he
  subst hS
  have hz := bs_cons k T
  have hx2 : ∀ h, (bs (k :: T))[0]'h = k := fun _ => rfl
  have hkl := k.toNat_lt
  have hex := bs_tail k T
  have HM : Hid ((bs (k :: T)).size ≤ maxLen) := by rw [Hid, bs_size]; unfold maxLen; simp; omega
  go_enter Tryz.func95, Tryz.ntmps95
  go_wp2_with (first | (go_at_call 77; refine (HN.out _).mono ?_; rintro e w1 ⟨rfl, rfl⟩))
  go_region_held3 (fun _ => True) (trivial)
    (first
      | (go_at_call 131; (with_reducible refine (hasPrefix_bs _ _ _ HP.out _).mono ?_); rintro e w2 ⟨rfl, rfl⟩))
  go_wp2_with (first
    | (go_at_call 58; refine (over_any _ _).mono ?_; rintro e w3 ⟨rfl, h3, b3⟩; have H3 : Hid (RdAt 149 w3 w.heap.size (bs V) 0 0) := h3; clear h3; have bb3 := (below_drew w.heap.size w).trans b3)
    | (go_at_call 132; refine (fixed_rd H3 hVl (by omega) d1).mono ?_; rintro e w4 ⟨rfl, h4, g4⟩; have H4 := Lib.hid h4; clear h4; have bb4 := below_grown bb3 g4 bb3.size (Nat.le_refl _))
    | (go_at_call 99; (with_reducible refine (take_rd H4 hVl ha1 d2).mono ?_); rintro e w5 ⟨rfl, h5, g5⟩; have H5 := Lib.hid h5; clear h5; have bb5 := below_grown bb4 g5 bb4.size (Nat.le_refl _))
    | (go_at_call 62; refine (err_rd H5).mono ?_; rintro e w6 ⟨rfl, rfl⟩))
  go_region_held3 (fun _ => True) (trivial)
    (first
      | (go_at_call 99; (with_reducible first | refine (take_rd (rd_dr H5) hVl ha6 d3).mono ?_ | refine (take_rd H5 hVl ha6 d3).mono ?_); rintro e w7 ⟨rfl, h7, g7⟩; have H7 := Lib.hid h7; clear h7; have bb7 := below_grown ((bb5.trans (below_drew _ _))) g7 (by have := bb5.size; exact this) (Nat.le_refl _)))
  all_goals
    go_wp2_with (first | (go_at_call 62; (with_reducible refine (err_rd H7).mono ?_); rintro e w8 ⟨rfl, rfl⟩) | (go_at_call 133; (with_reducible refine (whole_no_bs _ HM.out _ HW.out _).mono ?_); rintro e w9 ⟨rfl, b9⟩; have H9 := rd_below H7 b9; have bb9 := bb7.trans (b9.mono bb7.size)))
    refine bodyPost_ret (results_tmp4 rfl _ _ _) rfl ?_
    exact ⟨rfl, bb9⟩
set_option maxHeartbeats 1000000 in
theorem pieceAt_none (L : List UInt8) (p : Nat) (hL : L.length ≤ 1000000) (hp : p + gapOf p ≤ L.length) (HP : Hid (Lib.hasPrefix (L.drop p) (List.replicate (gapOf p) 0) = true)) (V : List UInt8) (E : Nat) (hE : min ((p : Int) + gapOf p + 7 + roomOf p) L.length = E) (hE1 : p + gapOf p ≤ E) (hE2 : E ≤ L.length)
    (HV : (bs L).extract (p + gapOf p) E = bs V) (hVl : V.length ≤ 1000000) (B1 S : List UInt8) (c d : UInt8) (a1 a3 : Nat) (e1 e3 : Int) (d1 : dTake V 0 0 4 = (B1, a1, e1)) (d2 : dTake V a1 e1 2 = ([c, d], 6, 0)) (ha1 : a1 ≤ V.length) (ha6 : 6 ≤ V.length)
    (d3 : dTake V 6 0 (1 + (c.toNat : Int) + (d.toNat : Int) * 256) = (S, a3, e3)) (k : UInt8) (T : List UInt8) (hS : S = k :: T) (hTl : T.length ≤ 1000000) (he : e3 = 0) (HW : Hid (Crc.mask (Crc.ofL S) = big B1)) (hk : k.toNat < 1) (w : World) :
    Calls Tryz.prog 95 #[.string (bs L), .int .i64 p] w fun e w' => e = .returned (.tuple #[.int .u8 0, .string ⟨#[]⟩, .int .i64 0, .bool false]) ∧ Below w.heap.size w w' := by
  have hg := gapOf_le p
  have hro := roomOf_le p
  have hbz := bs_size
  have hno := noughts p
  have hbd := bs_drop
  have HN := Lib.hid (next_nat p (by omega))
  have hq1 : (p : Int) ≤ (L.length : Int) := by omega
  have hq2 : (0 : Int) ≤ (gapOf p : Int) := by omega
  have hq6 : (gapOf p : Int) ≤ 6 := by omega
  have hq3 : (p : Int) + (gapOf p : Int) ≤ (E : Int) := by omega
  have hq4 : (E : Int) ≤ (L.length : Int) := by omega
  have hsl := slice_in hE1 hE2 HV
  have hc := c.toNat_lt
  have hd := d.toNat_lt
  have hbi := bs_get2 c d
  have hx0 : ∀ h, (bs [c, d])[0]'h = c := fun _ => rfl
  have hx1 : ∀ h, (bs [c, d])[1]'h = d := fun _ => rfl
  have hw1 : IntKind.i64.wrap (c.toNat : Int) = c.toNat := IntWalk.i64_in _ (by omega)
  have hw2 : IntKind.i64.wrap (d.toNat : Int) = d.toNat := IntWalk.i64_in _ (by omega)
  have hw3 : IntKind.i64.wrap (1 + (c.toNat : Int)) = 1 + c.toNat := IntWalk.i64_in _ (by omega)
  have hw4 : IntKind.i64.wrap ((d.toNat : Int) * 256) = d.toNat * 256 := IntWalk.i64_in _ (by omega)
  have hw5 : IntKind.i64.wrap (1 + (c.toNat : Int) + (d.toNat : Int) * 256) = 1 + c.toNat + d.toNat * 256 := IntWalk.i64_in _ (by omega)
  subst he
  subst hS
  have hz := bs_cons k T
  have hx2 : ∀ h, (bs (k :: T))[0]'h = k := fun _ => rfl
  have hkl := k.toNat_lt
  have hex := bs_tail k T
  have HM : Hid ((bs (k :: T)).size ≤ maxLen) := by rw [Hid, bs_size]; unfold maxLen; simp; omega
  go_enter Tryz.func95, Tryz.ntmps95
  go_wp2_with (first | (go_at_call 77; refine (HN.out _).mono ?_; rintro e w1 ⟨rfl, rfl⟩))
  go_region_held3 (fun _ => True) (trivial)
    (first
      | (go_at_call 131; (with_reducible refine (hasPrefix_bs _ _ _ HP.out _).mono ?_); rintro e w2 ⟨rfl, rfl⟩))
  go_wp2_with (first
    | (go_at_call 58; refine (over_any _ _).mono ?_; rintro e w3 ⟨rfl, h3, b3⟩; have H3 : Hid (RdAt 149 w3 w.heap.size (bs V) 0 0) := h3; clear h3; have bb3 := (below_drew w.heap.size w).trans b3)
    | (go_at_call 132; refine (fixed_rd H3 hVl (by omega) d1).mono ?_; rintro e w4 ⟨rfl, h4, g4⟩; have H4 := Lib.hid h4; clear h4; have bb4 := below_grown bb3 g4 bb3.size (Nat.le_refl _))
    | (go_at_call 99; (with_reducible refine (take_rd H4 hVl ha1 d2).mono ?_); rintro e w5 ⟨rfl, h5, g5⟩; have H5 := Lib.hid h5; clear h5; have bb5 := below_grown bb4 g5 bb4.size (Nat.le_refl _))
    | (go_at_call 62; refine (err_rd H5).mono ?_; rintro e w6 ⟨rfl, rfl⟩))
  go_region_held3 (fun _ => True) (trivial)
    (first
      | (go_at_call 99; (with_reducible first | refine (take_rd (rd_dr H5) hVl ha6 d3).mono ?_ | refine (take_rd H5 hVl ha6 d3).mono ?_); rintro e w7 ⟨rfl, h7, g7⟩; have H7 := Lib.hid h7; clear h7; have bb7 := below_grown ((bb5.trans (below_drew _ _))) g7 (by have := bb5.size; exact this) (Nat.le_refl _)))
  all_goals
    go_wp2_with (first | (go_at_call 62; (with_reducible refine (err_rd H7).mono ?_); rintro e w8 ⟨rfl, rfl⟩) | (go_at_call 133; (with_reducible refine (whole_yes_bs _ HM.out _ HW.out _).mono ?_); rintro e w9 ⟨rfl, b9⟩; have H9 := rd_below H7 b9; have bb9 := bb7.trans (b9.mono bb7.size)))
    refine bodyPost_ret (results_tmp4 rfl _ _ _) rfl ?_
    exact ⟨rfl, bb9⟩
set_option maxHeartbeats 1000000 in
theorem pieceAt_over (L : List UInt8) (p : Nat) (hL : L.length ≤ 1000000) (hp : p + gapOf p ≤ L.length) (HP : Hid (Lib.hasPrefix (L.drop p) (List.replicate (gapOf p) 0) = true)) (V : List UInt8) (E : Nat) (hE : min ((p : Int) + gapOf p + 7 + roomOf p) L.length = E) (hE1 : p + gapOf p ≤ E) (hE2 : E ≤ L.length)
    (HV : (bs L).extract (p + gapOf p) E = bs V) (hVl : V.length ≤ 1000000) (B1 S : List UInt8) (c d : UInt8) (a1 a3 : Nat) (e1 e3 : Int) (d1 : dTake V 0 0 4 = (B1, a1, e1)) (d2 : dTake V a1 e1 2 = ([c, d], 6, 0)) (ha1 : a1 ≤ V.length) (ha6 : 6 ≤ V.length)
    (d3 : dTake V 6 0 (1 + (c.toNat : Int) + (d.toNat : Int) * 256) = (S, a3, e3)) (k : UInt8) (T : List UInt8) (hS : S = k :: T) (hTl : T.length ≤ 1000000) (he : e3 = 0) (HW : Hid (Crc.mask (Crc.ofL S) = big B1)) (hk1 : 1 ≤ k.toNat) (hk : 4 < k.toNat) (w : World) :
    Calls Tryz.prog 95 #[.string (bs L), .int .i64 p] w fun e w' => e = .returned (.tuple #[.int .u8 0, .string ⟨#[]⟩, .int .i64 0, .bool false]) ∧ Below w.heap.size w w' := by
  have hg := gapOf_le p
  have hro := roomOf_le p
  have hbz := bs_size
  have hno := noughts p
  have hbd := bs_drop
  have HN := Lib.hid (next_nat p (by omega))
  have hq1 : (p : Int) ≤ (L.length : Int) := by omega
  have hq2 : (0 : Int) ≤ (gapOf p : Int) := by omega
  have hq6 : (gapOf p : Int) ≤ 6 := by omega
  have hq3 : (p : Int) + (gapOf p : Int) ≤ (E : Int) := by omega
  have hq4 : (E : Int) ≤ (L.length : Int) := by omega
  have hsl := slice_in hE1 hE2 HV
  have hc := c.toNat_lt
  have hd := d.toNat_lt
  have hbi := bs_get2 c d
  have hx0 : ∀ h, (bs [c, d])[0]'h = c := fun _ => rfl
  have hx1 : ∀ h, (bs [c, d])[1]'h = d := fun _ => rfl
  have hw1 : IntKind.i64.wrap (c.toNat : Int) = c.toNat := IntWalk.i64_in _ (by omega)
  have hw2 : IntKind.i64.wrap (d.toNat : Int) = d.toNat := IntWalk.i64_in _ (by omega)
  have hw3 : IntKind.i64.wrap (1 + (c.toNat : Int)) = 1 + c.toNat := IntWalk.i64_in _ (by omega)
  have hw4 : IntKind.i64.wrap ((d.toNat : Int) * 256) = d.toNat * 256 := IntWalk.i64_in _ (by omega)
  have hw5 : IntKind.i64.wrap (1 + (c.toNat : Int) + (d.toNat : Int) * 256) = 1 + c.toNat + d.toNat * 256 := IntWalk.i64_in _ (by omega)
  subst he
  subst hS
  have hz := bs_cons k T
  have hx2 : ∀ h, (bs (k :: T))[0]'h = k := fun _ => rfl
  have hkl := k.toNat_lt
  have hex := bs_tail k T
  have HM : Hid ((bs (k :: T)).size ≤ maxLen) := by rw [Hid, bs_size]; unfold maxLen; simp; omega
  go_enter Tryz.func95, Tryz.ntmps95
  go_wp2_with (first | (go_at_call 77; refine (HN.out _).mono ?_; rintro e w1 ⟨rfl, rfl⟩))
  go_region_held3 (fun _ => True) (trivial)
    (first
      | (go_at_call 131; (with_reducible refine (hasPrefix_bs _ _ _ HP.out _).mono ?_); rintro e w2 ⟨rfl, rfl⟩))
  go_wp2_with (first
    | (go_at_call 58; refine (over_any _ _).mono ?_; rintro e w3 ⟨rfl, h3, b3⟩; have H3 : Hid (RdAt 149 w3 w.heap.size (bs V) 0 0) := h3; clear h3; have bb3 := (below_drew w.heap.size w).trans b3)
    | (go_at_call 132; refine (fixed_rd H3 hVl (by omega) d1).mono ?_; rintro e w4 ⟨rfl, h4, g4⟩; have H4 := Lib.hid h4; clear h4; have bb4 := below_grown bb3 g4 bb3.size (Nat.le_refl _))
    | (go_at_call 99; (with_reducible refine (take_rd H4 hVl ha1 d2).mono ?_); rintro e w5 ⟨rfl, h5, g5⟩; have H5 := Lib.hid h5; clear h5; have bb5 := below_grown bb4 g5 bb4.size (Nat.le_refl _))
    | (go_at_call 62; refine (err_rd H5).mono ?_; rintro e w6 ⟨rfl, rfl⟩))
  go_region_held3 (fun _ => True) (trivial)
    (first
      | (go_at_call 99; (with_reducible first | refine (take_rd (rd_dr H5) hVl ha6 d3).mono ?_ | refine (take_rd H5 hVl ha6 d3).mono ?_); rintro e w7 ⟨rfl, h7, g7⟩; have H7 := Lib.hid h7; clear h7; have bb7 := below_grown ((bb5.trans (below_drew _ _))) g7 (by have := bb5.size; exact this) (Nat.le_refl _)))
  all_goals
    go_wp2_with (first | (go_at_call 62; (with_reducible refine (err_rd H7).mono ?_); rintro e w8 ⟨rfl, rfl⟩) | (go_at_call 133; (with_reducible refine (whole_yes_bs _ HM.out _ HW.out _).mono ?_); rintro e w9 ⟨rfl, b9⟩; have H9 := rd_below H7 b9; have bb9 := bb7.trans (b9.mono bb7.size)))
    refine bodyPost_ret (results_tmp4 rfl _ _ _) rfl ?_
    exact ⟨rfl, bb9⟩
set_option maxHeartbeats 1000000 in
theorem pieceAt_yes (L : List UInt8) (p : Nat) (hL : L.length ≤ 1000000) (hp : p + gapOf p ≤ L.length) (HP : Hid (Lib.hasPrefix (L.drop p) (List.replicate (gapOf p) 0) = true)) (V : List UInt8) (E : Nat) (hE : min ((p : Int) + gapOf p + 7 + roomOf p) L.length = E) (hE1 : p + gapOf p ≤ E) (hE2 : E ≤ L.length)
    (HV : (bs L).extract (p + gapOf p) E = bs V) (hVl : V.length ≤ 1000000) (B1 S : List UInt8) (c d : UInt8) (a1 a3 : Nat) (e1 e3 : Int) (d1 : dTake V 0 0 4 = (B1, a1, e1)) (d2 : dTake V a1 e1 2 = ([c, d], 6, 0)) (ha1 : a1 ≤ V.length) (ha6 : 6 ≤ V.length)
    (d3 : dTake V 6 0 (1 + (c.toNat : Int) + (d.toNat : Int) * 256) = (S, a3, e3)) (k : UInt8) (T : List UInt8) (hS : S = k :: T) (hTl : T.length ≤ 1000000) (he : e3 = 0) (HW : Hid (Crc.mask (Crc.ofL S) = big B1)) (hk1 : 1 ≤ k.toNat) (hk : k.toNat ≤ 4) (ha3 : a3 ≤ 1000000) (w : World) :
    Calls Tryz.prog 95 #[.string (bs L), .int .i64 p] w fun e w' => e = .returned (.tuple #[.int .u8 k.toNat, .string (bs T), .int .i64 ((p : Int) + gapOf p + a3), .bool true]) ∧ Below w.heap.size w w' := by
  have hg := gapOf_le p
  have hro := roomOf_le p
  have hbz := bs_size
  have hno := noughts p
  have hbd := bs_drop
  have HN := Lib.hid (next_nat p (by omega))
  have hq1 : (p : Int) ≤ (L.length : Int) := by omega
  have hq2 : (0 : Int) ≤ (gapOf p : Int) := by omega
  have hq6 : (gapOf p : Int) ≤ 6 := by omega
  have hq3 : (p : Int) + (gapOf p : Int) ≤ (E : Int) := by omega
  have hq4 : (E : Int) ≤ (L.length : Int) := by omega
  have hsl := slice_in hE1 hE2 HV
  have hc := c.toNat_lt
  have hd := d.toNat_lt
  have hbi := bs_get2 c d
  have hx0 : ∀ h, (bs [c, d])[0]'h = c := fun _ => rfl
  have hx1 : ∀ h, (bs [c, d])[1]'h = d := fun _ => rfl
  have hw1 : IntKind.i64.wrap (c.toNat : Int) = c.toNat := IntWalk.i64_in _ (by omega)
  have hw2 : IntKind.i64.wrap (d.toNat : Int) = d.toNat := IntWalk.i64_in _ (by omega)
  have hw3 : IntKind.i64.wrap (1 + (c.toNat : Int)) = 1 + c.toNat := IntWalk.i64_in _ (by omega)
  have hw4 : IntKind.i64.wrap ((d.toNat : Int) * 256) = d.toNat * 256 := IntWalk.i64_in _ (by omega)
  have hw5 : IntKind.i64.wrap (1 + (c.toNat : Int) + (d.toNat : Int) * 256) = 1 + c.toNat + d.toNat * 256 := IntWalk.i64_in _ (by omega)
  subst he
  subst hS
  have hz := bs_cons k T
  have hx2 : ∀ h, (bs (k :: T))[0]'h = k := fun _ => rfl
  have hkl := k.toNat_lt
  have hex := bs_tail k T
  have hwz : IntKind.i64.wrap ((p : Int) + gapOf p + a3) = p + gapOf p + a3 := IntWalk.i64_in _ (by omega)
  have hq9 : (1 : Int) ≤ (T.length : Int) + 1 := by omega
  have HM : Hid ((bs (k :: T)).size ≤ maxLen) := by rw [Hid, bs_size]; unfold maxLen; simp; omega
  go_enter Tryz.func95, Tryz.ntmps95
  go_wp2_with (first | (go_at_call 77; refine (HN.out _).mono ?_; rintro e w1 ⟨rfl, rfl⟩))
  go_region_held3 (fun _ => True) (trivial)
    (first
      | (go_at_call 131; (with_reducible refine (hasPrefix_bs _ _ _ HP.out _).mono ?_); rintro e w2 ⟨rfl, rfl⟩))
  go_wp2_with (first
    | (go_at_call 58; refine (over_any _ _).mono ?_; rintro e w3 ⟨rfl, h3, b3⟩; have H3 : Hid (RdAt 149 w3 w.heap.size (bs V) 0 0) := h3; clear h3; have bb3 := (below_drew w.heap.size w).trans b3)
    | (go_at_call 132; refine (fixed_rd H3 hVl (by omega) d1).mono ?_; rintro e w4 ⟨rfl, h4, g4⟩; have H4 := Lib.hid h4; clear h4; have bb4 := below_grown bb3 g4 bb3.size (Nat.le_refl _))
    | (go_at_call 99; (with_reducible refine (take_rd H4 hVl ha1 d2).mono ?_); rintro e w5 ⟨rfl, h5, g5⟩; have H5 := Lib.hid h5; clear h5; have bb5 := below_grown bb4 g5 bb4.size (Nat.le_refl _))
    | (go_at_call 62; refine (err_rd H5).mono ?_; rintro e w6 ⟨rfl, rfl⟩))
  go_region_held3 (fun _ => True) (trivial)
    (first
      | (go_at_call 99; (with_reducible first | refine (take_rd (rd_dr H5) hVl ha6 d3).mono ?_ | refine (take_rd H5 hVl ha6 d3).mono ?_); rintro e w7 ⟨rfl, h7, g7⟩; have H7 := Lib.hid h7; clear h7; have bb7 := below_grown ((bb5.trans (below_drew _ _))) g7 (by have := bb5.size; exact this) (Nat.le_refl _)))
  all_goals
    go_wp2_with (first | (go_at_call 62; (with_reducible refine (err_rd H7).mono ?_); rintro e w8 ⟨rfl, rfl⟩) | (go_at_call 133; (with_reducible refine (whole_yes_bs _ HM.out _ HW.out _).mono ?_); rintro e w9 ⟨rfl, b9⟩; have H9 := rd_below H7 b9; have bb9 := bb7.trans (b9.mono bb7.size)))
    go_region_held3 (fun _ => True) (trivial)
      (first
        | (go_at_call 134; (with_reducible first | refine (at_rd (rd_dr H9)).mono ?_ | refine (at_rd H9).mono ?_); rintro e w10 ⟨rfl, rfl⟩))
    all_goals
      go_wp2
      refine bodyPost_ret (results_tmp4 rfl _ _ _) rfl ?_
      exact ⟨rfl, bb9.trans (below_drew _ _)⟩
end Go.Proofs.YtdkgieaanpfhcaaGreatDoor
