/-
  The example of the chapter on disks, walked. No condition.
-/
import Derived.Test.YtpeobjnamflibaaDkJ
namespace Go.Proofs.Ytpeobjnamflibaa.Dk
open Go.RowKit Go.Maps

theorem fates_nil (w : World) : FatesAt w (.slice none 0 0) [] := ⟨⟨none, 0, rfl⟩, fun h => by cases h⟩
theorem can_new (n : Int) (h0 : 0 ≤ n) (h1 : n ≤ 1000000000) : CanStep n (-1) (-1) := ⟨rfl, rfl, by omega, by omega, by omega, by omega, by omega, by omega⟩
theorem perm_one {ss : List (List UInt8)} {x : List UInt8} (h : ss.Perm [x]) : ss = [x] := List.perm_singleton.1 h
theorem tick_m1 : tick (-1) = -1 := rfl
/-- from nothing: a disk's blocks are all new -/
theorem new_low {w w1 : World} {d m : Nat} {L : List Ent} (hd : d = w.heap.size + 1) (hm : m = w.heap.size) (hL : L = []) (_ : Below w.heap.size w w1) : ∀ k ∈ feet d m L, w.heap.size ≤ k := by
  subst hd; subst hm; subst hL
  intro k hk
  simp [feet] at hk
  omega
theorem crash_one (F : Nat) (v : Value) : crashGo [] [[97]] 0 ([] ++ ⟨[97], [] ++ [104, 105], 0, F, v⟩ :: []) = [meetE zeroFate ⟨[97], [] ++ [104, 105], 0, F, v⟩] := rfl
set_option maxRecDepth 100000 in
set_option maxHeartbeats 1000000 in
theorem awake_disk (w : World) : Calls Try.prog 4 #[] w fun r w' => r = .returned (.bool true) ∧ Below w.heap.size w w' := by
  go_enter Try.func4, Try.ntmps4
  go_wp2_with (first
    | (go_at_call 5; with_reducible refine (new_any 100 (by omega) (by omega) _).mono ?_; rintro r w1 ⟨rfl, hD1, hb1⟩; have HD1 := Lib.hid (And.intro hD1 hb1); clear hD1 hb1)
    | (go_at_call 10
       refine (create_ok HD1.out.1 ⟨#[97]⟩ (by show (1 : Nat) ≤ _; decide) (by show (1 : Nat) ≤ _; decide) (by decide) (fun e he => by cases he) (by decide) rfl rfl (by omega) (by omega) (by omega) (by omega) (by omega) (by omega)).mono ?_
       rintro r w2 ⟨rfl, F, hD2, hM2⟩
       have HD2 := Lib.hid (And.intro hD2 hM2)
       clear hD2 hM2)
    | (go_at_call 11
       (refine (append_ok (A := []) (B := []) HD2.out.1 ⟨#[97]⟩ ⟨#[104, 105]⟩ (by show (1 : Nat) ≤ _; decide) (by show (2 : Nat) ≤ _; decide) rfl (by omega) (by show ((0 : Nat) : Int) + ((2 : Nat) : Int) ≤ 100; omega) (can_new _ (by omega) (by omega))).mono ?_)
       rintro r w3 ⟨rfl, v3, hD3, hM3⟩
       have HD3 := Lib.hid (And.intro hD3 hM3)
       clear hD3 hM3)
    | (go_at_call 12
       refine (read_ok HD3.out.1 ⟨#[97]⟩ (by show (1 : Nat) ≤ _; decide) (List.mem_append_right _ List.mem_cons_self) rfl).mono ?_
       rintro r w4 ⟨rfl, rfl⟩)
    | (go_at_call 12
       refine (read_ok HD5.out.1 ⟨#[97]⟩ (by show (1 : Nat) ≤ _; decide) List.mem_cons_self rfl).mono ?_
       rintro r w4 ⟨rfl, rfl⟩)
    | (go_at_call 13
       refine (crash_any HD3.out.1 (.slice none 0 0) [] (fates_nil _) (fun h0 => absurd h0 (by decide)) (by decide)).mono ?_
       rintro r w5 ⟨rfl, ss, L5, hso, hsp, hL5, hD5, hM5⟩
       have hss := perm_one hsp
       subst hss
       subst hL5
       rw [crash_one] at hD5 hM5
       have HD5 := Lib.hid (And.intro hD5 (HD3.out.2.trans hM5))
       clear hD5 hM5 HD3))
  go_ret
  exact ⟨rfl, HD1.out.2.trans ((HD2.out.2.trans HD5.out.2).below (new_low rfl rfl rfl HD1.out.2) HD1.out.2.size)⟩
end Go.Proofs.Ytpeobjnamflibaa.Dk
