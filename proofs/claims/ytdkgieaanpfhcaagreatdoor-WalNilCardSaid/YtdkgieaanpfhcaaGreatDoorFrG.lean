/-
  What a record of a log is, and the Go text that reads it. Conditions: as each theorem states.
-/
import Derived.Test.YtdkgieaanpfhcaaGreatDoorFrF
namespace Go.Proofs.YtdkgieaanpfhcaaGreatDoor
open Go.RowKit
open Vi

theorem preadV_bd {q : Nat} {V : List UInt8} {k r : Nat} {T : List UInt8} (h : preadV q V = some (k, T, r)) : 1 ≤ k ∧ k ≤ 4 ∧ r = q + (7 + T.length) ∧ 7 + T.length ≤ V.length := by
  by_cases h6 : V.length < 6
  · rw [preadV_short h6] at h; cases h
  · obtain ⟨s0, s1, s2, s3, c, d, S, rfl⟩ := six_of V h6
    rw [preadV] at h
    split at h
    · rename_i hn
      have hSl : (S.take (1 + c.toNat + d.toNat * 256)).length = 1 + c.toNat + d.toNat * 256 := by rw [List.length_take]; omega
      split at h
      · rename_i k' T' hkT
        split at h
        · rename_i hc
          rw [hkT] at hSl
          simp only [Option.some.injEq, Prod.mk.injEq] at h
          obtain ⟨rfl, rfl, rfl⟩ := h
          simp at hSl ⊢
          omega
        · cases h
      · cases h
    · cases h
theorem pread_bd {L : List UInt8} {p k r : Nat} {T : List UInt8} (hp : p ≤ L.length) (h : pread L p = some (k, T, r)) : 1 ≤ k ∧ k ≤ 4 ∧ p + 7 + T.length ≤ r ∧ r ≤ L.length := by
  unfold pread at h
  split at h
  · obtain ⟨h1, h2, h3, h4⟩ := preadV_bd h
    rw [List.length_take, List.length_drop] at h4
    omega
  · cases h
/-- The record from a place on, begun or not. -/
def recGo (L : List UInt8) (b : Bool) (p : Nat) (acc : List UInt8) : Option (List UInt8 × Nat) :=
  if hp : p ≤ L.length then
    match h : pread L p with
    | none => none
    | some (k, T, q) => if (decide (k = 3) || decide (k = 4)) = b then (if k = 1 ∨ k = 4 then some (acc ++ T, q) else recGo L true q (acc ++ T)) else none
  else none
termination_by L.length + 1 - p
decreasing_by
  have := pread_bd hp h
  omega
theorem rec_none {L : List UInt8} {b : Bool} {p : Nat} {acc : List UInt8} (h : pread L p = none) : recGo L b p acc = none := by
  rw [recGo]
  split
  · split
    · rfl
    · rename_i h'; rw [h] at h'; cases h'
  · rfl
theorem rec_some {L : List UInt8} {b : Bool} {p k q : Nat} {T acc : List UInt8} (hp : p ≤ L.length) (h : pread L p = some (k, T, q)) :
    recGo L b p acc = if (decide (k = 3) || decide (k = 4)) = b then (if k = 1 ∨ k = 4 then some (acc ++ T, q) else recGo L true q (acc ++ T)) else none := by
  rw [recGo, dif_pos hp]
  split
  · rename_i h'; rw [h] at h'; cases h'
  · rename_i k' T' q' h'
    rw [h] at h'
    simp only [Option.some.injEq, Prod.mk.injEq] at h'
    obtain ⟨rfl, rfl, rfl⟩ := h'
    rfl
def rread (L : List UInt8) (p : Nat) : Option (List UInt8 × Nat) := recGo L false p []
def rval : Option (List UInt8 × Nat) → Value
  | none => .tuple #[.string ⟨#[]⟩, .int .i64 0, .bool false]
  | some (s, q) => .tuple #[.string (bs s), .int .i64 q, .bool true]
theorem piece_no {L : List UInt8} {p : Nat} (hL : L.length ≤ 1000000) (hp : p ≤ L.length) (h : pread L p = none) (w : World) :
    Calls Tryz.prog 95 #[.string (bs L), .int .i64 p] w fun e w' => e = .returned (.tuple #[.int .u8 0, .string ⟨#[]⟩, .int .i64 0, .bool false]) ∧ Below w.heap.size w w' := by
  have := pieceAt_any L p hL hp w
  rw [h] at this
  exact this
theorem piece_is {L : List UInt8} {p k q : Nat} {T : List UInt8} {x : Int} (hL : L.length ≤ 1000000) (hp : p ≤ L.length) (h : pread L p = some (k, T, q)) (hx : (k : Int) = x) (w : World) :
    Calls Tryz.prog 95 #[.string (bs L), .int .i64 p] w fun e w' => e = .returned (.tuple #[.int .u8 x, .string (bs T), .int .i64 q, .bool true]) ∧ Below w.heap.size w w' := by
  have := pieceAt_any L p hL hp w
  rw [h] at this
  subst hx
  exact this
def RcJ (L : List UInt8) (R : Option (List UInt8 × Nat)) (w : World) (a' : Act) (w' : World) : Prop :=
  ∃ (p : Nat) (acc : List UInt8) (u9 u10 u11 u12 u13 u14 u15 u16 u17 u18 u19 u20 u21 u22 u23 u24 u25 u26 u27 u28 u29 u30 u31 u32 u33 u34 u35 u36 u37 u38 u39 u40 u41 u42 u43 u44 u45 u46 u47 u48 : Value), recGo L true p acc = R ∧ p ≤ L.length ∧ acc.length ≤ p ∧ Bd w.heap.size w.heap.size acc w' ∧ Below w.heap.size w w' ∧
    a' = { tmps := #[.string (bs L), .int .i64 p, undef, undef, .string ⟨#[]⟩, .int .i64 0, .bool false, .pointer (some ⟨w.heap.size, 0, none⟩), .bool true, u9, u10, u11, u12, u13, u14, u15, u16, u17, u18, u19, u20, u21, u22, u23, u24, u25, u26, u27, u28, u29, u30, u31, u32, u33, u34, u35, u36, u37, u38, u39, u40, u41, u42, u43, u44, u45, u46, u47, u48], defers := [] }
def rcMu (L : List UInt8) (a' : Act) : Nat := L.length + 1 - (intOf (a'.tmps.getD 1 undef)).toNat
theorem bd_add {B b : Nat} {l s : List UInt8} {w : World} (hl : Hid (l.length + s.length ≤ 140737488355328)) (h : Bd B b l w) :
    Calls Tryz.prog 69 #[.pointer (some ⟨b, 0, none⟩), .string (bs s)] w fun e w' => e = .returned (.tuple #[.int .i64 (bs s).size, .nilIface]) ∧ Bd B b (l ++ s) w' ∧ Below B w w' := bd_write h hl.out
theorem four_kinds {k : Nat} (h1 : 1 ≤ k) (h4 : k ≤ 4) : k = 1 ∨ k = 2 ∨ k = 3 ∨ k = 4 := by omega
set_option maxHeartbeats 4000000 in
theorem recordAt_go (L : List UInt8) (p0 : Nat) (hL : L.length ≤ 1000000) (hp0 : p0 ≤ L.length) (R : Option (List UInt8 × Nat)) (HR : Hid (recGo L false p0 [] = R)) (w : World) :
    Calls Tryz.prog 57 #[.string (bs L), .int .i64 p0] w fun e w' => e = .returned (rval R) ∧ Below w.heap.size w w' := by
  go_enter Tryz.func57, Tryz.ntmps57
  go_wp2
  refine wp_scope_jumps 0 (RcJ L R w) (fun a' _ => rcMu L a') rfl ?_ ?_
  · match hpr : pread L p0 with
    | none =>
      have PCE := Lib.hid (fun W => piece_no hL hp0 hpr W)
      have hR : R = none := by rw [← HR.out]; exact rec_none hpr
      go_wp2
      go_step3
      have hbf := bd_fresh w
      go_wp2_with (first
        | (go_at_call 95; (with_reducible refine (PCE.out _).mono ?_); rintro e w3 ⟨rfl, hw3⟩; have hb3 := bd_below hbf hw3)
        | (go_at_call 69; (with_reducible refine (bd_add HA hb3).mono ?_); rintro e w4 ⟨rfl, hb4, hw4⟩)
        | (go_at_call 74; refine (bd_string hb4).mono ?_; rintro e w5 ⟨rfl, hw5⟩))
      simp only [Exit.jump]
      go_ret3
      exact ⟨by rw [hR]; rfl, ((Below.refl _ w).alloc (Nat.le_refl _) _).trans (hw3.mono (by simp))⟩
    | some (k, T, q) =>
      obtain ⟨hk1, hk4, _, _⟩ := pread_bd hp0 hpr
      rcases four_kinds hk1 hk4 with rfl | rfl | rfl | rfl
      · skip
        have PCE := Lib.hid (fun W => piece_is (x := 1) hL hp0 hpr rfl W)
        obtain ⟨_, _, hq1, hq2⟩ := pread_bd hp0 hpr
        have HA : Hid ((([] : List UInt8)).length + T.length ≤ 140737488355328) := by rw [Hid]; simp; omega
        have hR : R = some ([] ++ T, q) := by rw [← HR.out, rec_some hp0 hpr]; rfl
        go_wp2
        go_step3
        have hbf := bd_fresh w
        go_wp2_with (first
          | (go_at_call 95; (with_reducible refine (PCE.out _).mono ?_); rintro e w3 ⟨rfl, hw3⟩; have hb3 := bd_below hbf hw3)
          | (go_at_call 69; (with_reducible refine (bd_add HA hb3).mono ?_); rintro e w4 ⟨rfl, hb4, hw4⟩)
          | (go_at_call 74; refine (bd_string hb4).mono ?_; rintro e w5 ⟨rfl, hw5⟩))
        simp only [Exit.jump]
        go_ret3
        exact ⟨by rw [hR]; rfl, ((Below.refl _ w).alloc (Nat.le_refl _) _).trans ((hw3.mono (by simp)).trans (hw4.trans hw5))⟩
      · skip
        have PCE := Lib.hid (fun W => piece_is (x := 2) hL hp0 hpr rfl W)
        obtain ⟨_, _, hq1, hq2⟩ := pread_bd hp0 hpr
        have HA : Hid ((([] : List UInt8)).length + T.length ≤ 140737488355328) := by rw [Hid]; simp; omega
        have hR : recGo L true q ([] ++ T) = R := by rw [← HR.out, rec_some hp0 hpr]; rfl
        go_wp2
        go_step3
        have hbf := bd_fresh w
        go_wp2_with (first
          | (go_at_call 95; (with_reducible refine (PCE.out _).mono ?_); rintro e w3 ⟨rfl, hw3⟩; have hb3 := bd_below hbf hw3)
          | (go_at_call 69; (with_reducible refine (bd_add HA hb3).mono ?_); rintro e w4 ⟨rfl, hb4, hw4⟩)
          | (go_at_call 74; refine (bd_string hb4).mono ?_; rintro e w5 ⟨rfl, hw5⟩))
        go_step3
        exact ⟨rfl, ⟨q, [] ++ T, _, _, _, _, _, _, _, _, _, _, _, _, _, _, _, _, _, _, _, _, _, _, _, _, _, _, _, _, _, _, _, _, _, _, _, _, _, _, _, _, hR, hq2, by simp; omega, hb4, ((Below.refl _ w).alloc (Nat.le_refl _) _).trans ((hw3.mono (by simp)).trans hw4), rfl⟩⟩
      · skip
        have PCE := Lib.hid (fun W => piece_is (x := 3) hL hp0 hpr rfl W)
        obtain ⟨_, _, hq1, hq2⟩ := pread_bd hp0 hpr
        have HA : Hid ((([] : List UInt8)).length + T.length ≤ 140737488355328) := by rw [Hid]; simp; omega
        have hR : R = none := by rw [← HR.out, rec_some hp0 hpr]; rfl
        go_wp2
        go_step3
        have hbf := bd_fresh w
        go_wp2_with (first
          | (go_at_call 95; (with_reducible refine (PCE.out _).mono ?_); rintro e w3 ⟨rfl, hw3⟩; have hb3 := bd_below hbf hw3)
          | (go_at_call 69; (with_reducible refine (bd_add HA hb3).mono ?_); rintro e w4 ⟨rfl, hb4, hw4⟩)
          | (go_at_call 74; refine (bd_string hb4).mono ?_; rintro e w5 ⟨rfl, hw5⟩))
        simp only [Exit.jump]
        go_ret3
        exact ⟨by rw [hR]; rfl, ((Below.refl _ w).alloc (Nat.le_refl _) _).trans (hw3.mono (by simp))⟩
      · skip
        have PCE := Lib.hid (fun W => piece_is (x := 4) hL hp0 hpr rfl W)
        obtain ⟨_, _, hq1, hq2⟩ := pread_bd hp0 hpr
        have HA : Hid ((([] : List UInt8)).length + T.length ≤ 140737488355328) := by rw [Hid]; simp; omega
        have hR : R = none := by rw [← HR.out, rec_some hp0 hpr]; rfl
        go_wp2
        go_step3
        have hbf := bd_fresh w
        go_wp2_with (first
          | (go_at_call 95; (with_reducible refine (PCE.out _).mono ?_); rintro e w3 ⟨rfl, hw3⟩; have hb3 := bd_below hbf hw3)
          | (go_at_call 69; (with_reducible refine (bd_add HA hb3).mono ?_); rintro e w4 ⟨rfl, hb4, hw4⟩)
          | (go_at_call 74; refine (bd_string hb4).mono ?_; rintro e w5 ⟨rfl, hw5⟩))
        simp only [Exit.jump]
        go_ret3
        exact ⟨by rw [hR]; rfl, ((Below.refl _ w).alloc (Nat.le_refl _) _).trans (hw3.mono (by simp))⟩
  · rintro a' w2 ⟨p, acc, u9, u10, u11, u12, u13, u14, u15, u16, u17, u18, u19, u20, u21, u22, u23, u24, u25, u26, u27, u28, u29, u30, u31, u32, u33, u34, u35, u36, u37, u38, u39, u40, u41, u42, u43, u44, u45, u46, u47, u48, hr, hp, hacc, hb2, hw2, rfl⟩
    have HR := Lib.hid hr
    clear hr
    match hpr : pread L p with
    | none =>
      have PCE := Lib.hid (fun W => piece_no hL hp hpr W)
      have hR : R = none := by rw [← HR.out]; exact rec_none hpr
      go_wp2_with (first
        | (go_at_call 95; (with_reducible refine (PCE.out _).mono ?_); rintro e w3 ⟨rfl, hw3⟩; have hb3 := bd_below hb2 hw3)
        | (go_at_call 69; (with_reducible refine (bd_add HA hb3).mono ?_); rintro e w4 ⟨rfl, hb4, hw4⟩)
        | (go_at_call 74; refine (bd_string hb4).mono ?_; rintro e w5 ⟨rfl, hw5⟩))
      simp only [Exit.jump]
      go_ret3
      exact ⟨by rw [hR]; rfl, hw2.trans (hw3.mono hw2.size)⟩
    | some (k, T, q) =>
      obtain ⟨hk1, hk4, _, _⟩ := pread_bd hp hpr
      rcases four_kinds hk1 hk4 with rfl | rfl | rfl | rfl
      · skip
        have PCE := Lib.hid (fun W => piece_is (x := 1) hL hp hpr rfl W)
        obtain ⟨_, _, hq1, hq2⟩ := pread_bd hp hpr
        have HA : Hid ((acc).length + T.length ≤ 140737488355328) := by rw [Hid]; omega
        have hR : R = none := by rw [← HR.out, rec_some hp hpr]; rfl
        go_wp2_with (first
          | (go_at_call 95; (with_reducible refine (PCE.out _).mono ?_); rintro e w3 ⟨rfl, hw3⟩; have hb3 := bd_below hb2 hw3)
          | (go_at_call 69; (with_reducible refine (bd_add HA hb3).mono ?_); rintro e w4 ⟨rfl, hb4, hw4⟩)
          | (go_at_call 74; refine (bd_string hb4).mono ?_; rintro e w5 ⟨rfl, hw5⟩))
        simp only [Exit.jump]
        go_ret3
        exact ⟨by rw [hR]; rfl, hw2.trans (hw3.mono hw2.size)⟩
      · skip
        have PCE := Lib.hid (fun W => piece_is (x := 2) hL hp hpr rfl W)
        obtain ⟨_, _, hq1, hq2⟩ := pread_bd hp hpr
        have HA : Hid ((acc).length + T.length ≤ 140737488355328) := by rw [Hid]; omega
        have hR : R = none := by rw [← HR.out, rec_some hp hpr]; rfl
        go_wp2_with (first
          | (go_at_call 95; (with_reducible refine (PCE.out _).mono ?_); rintro e w3 ⟨rfl, hw3⟩; have hb3 := bd_below hb2 hw3)
          | (go_at_call 69; (with_reducible refine (bd_add HA hb3).mono ?_); rintro e w4 ⟨rfl, hb4, hw4⟩)
          | (go_at_call 74; refine (bd_string hb4).mono ?_; rintro e w5 ⟨rfl, hw5⟩))
        simp only [Exit.jump]
        go_ret3
        exact ⟨by rw [hR]; rfl, hw2.trans (hw3.mono hw2.size)⟩
      · skip
        have PCE := Lib.hid (fun W => piece_is (x := 3) hL hp hpr rfl W)
        obtain ⟨_, _, hq1, hq2⟩ := pread_bd hp hpr
        have HA : Hid ((acc).length + T.length ≤ 140737488355328) := by rw [Hid]; omega
        have hR : recGo L true q (acc ++ T) = R := by rw [← HR.out, rec_some hp hpr]; rfl
        go_wp2_with (first
          | (go_at_call 95; (with_reducible refine (PCE.out _).mono ?_); rintro e w3 ⟨rfl, hw3⟩; have hb3 := bd_below hb2 hw3)
          | (go_at_call 69; (with_reducible refine (bd_add HA hb3).mono ?_); rintro e w4 ⟨rfl, hb4, hw4⟩)
          | (go_at_call 74; refine (bd_string hb4).mono ?_; rintro e w5 ⟨rfl, hw5⟩))
        go_step3
        refine ⟨rfl, ⟨q, acc ++ T, _, _, _, _, _, _, _, _, _, _, _, _, _, _, _, _, _, _, _, _, _, _, _, _, _, _, _, _, _, _, _, _, _, _, _, _, _, _, _, _, hR, hq2, by simp; omega, hb4, hw2.trans ((hw3.mono hw2.size).trans hw4), rfl⟩, ?_⟩
        show L.length + 1 - ((q : Nat) : Int).toNat < L.length + 1 - ((p : Nat) : Int).toNat
        omega
      · skip
        have PCE := Lib.hid (fun W => piece_is (x := 4) hL hp hpr rfl W)
        obtain ⟨_, _, hq1, hq2⟩ := pread_bd hp hpr
        have HA : Hid ((acc).length + T.length ≤ 140737488355328) := by rw [Hid]; omega
        have hR : R = some (acc ++ T, q) := by rw [← HR.out, rec_some hp hpr]; rfl
        go_wp2_with (first
          | (go_at_call 95; (with_reducible refine (PCE.out _).mono ?_); rintro e w3 ⟨rfl, hw3⟩; have hb3 := bd_below hb2 hw3)
          | (go_at_call 69; (with_reducible refine (bd_add HA hb3).mono ?_); rintro e w4 ⟨rfl, hb4, hw4⟩)
          | (go_at_call 74; refine (bd_string hb4).mono ?_; rintro e w5 ⟨rfl, hw5⟩))
        simp only [Exit.jump]
        go_ret3
        exact ⟨by rw [hR]; rfl, hw2.trans ((hw3.mono hw2.size).trans (hw4.trans hw5))⟩
theorem recordAt_any (L : List UInt8) (p : Nat) (hL : L.length ≤ 1000000) (hp : p ≤ L.length) (w : World) :
    Calls Tryz.prog 57 #[.string (bs L), .int .i64 p] w fun e w' => e = .returned (rval (rread L p)) ∧ Below w.heap.size w w' := recordAt_go L p hL hp _ rfl w
end Go.Proofs.YtdkgieaanpfhcaaGreatDoor
