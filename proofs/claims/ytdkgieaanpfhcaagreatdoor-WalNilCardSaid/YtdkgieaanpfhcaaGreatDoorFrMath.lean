/-
  Plain mathematics of logs: pieces, records laid, and how long they are. No condition.
-/
import Derived.Test.YtdkgieaanpfhcaaGreatDoorGaCr
import Derived.Test.YtdkgieaanpfhcaaGreatDoorGaF
namespace Go.Proofs.YtdkgieaanpfhcaaGreatDoor
open Vi

def gapOf (a : Nat) : Nat := if 512 - a % 512 < 7 then 512 - a % 512 else 0
def roomOf (a : Nat) : Nat := if 512 - a % 512 < 7 then 505 else 512 - a % 512 - 7
theorem gapOf_le (a : Nat) : gapOf a ≤ 6 := by unfold gapOf; split <;> omega
theorem roomOf_le (a : Nat) : roomOf a ≤ 505 := by unfold roomOf; split <;> omega
def kindOf (begun ends : Bool) : Nat := if begun then (if ends then 4 else 3) else (if ends then 1 else 2)
theorem kindOf_lt (b e : Bool) : 1 ≤ kindOf b e ∧ kindOf b e ≤ 4 := by cases b <;> cases e <;> decide
/-- A piece of a kind. -/
def pce (k : Nat) (s : List UInt8) : List UInt8 :=
  little 4 (Crc.mask (Crc.ofL (UInt8.ofNat k :: s))) ++ (UInt8.ofNat (s.length % 256) :: UInt8.ofNat (s.length / 256 % 256) :: UInt8.ofNat k :: s)
theorem little_len (k : Nat) : ∀ n, (little k n).length = k := by
  induction k with
  | zero => intro n; rw [little_zero]; rfl
  | succ k ih => intro n; rw [little_succ]; simp [ih]
theorem pce_len (k : Nat) (s : List UInt8) : (pce k s).length = 7 + s.length := by
  unfold pce; simp [little_len]; omega
/-- A record's pieces, from one on whose block has so much room. -/
def layGo (begun : Bool) (room : Nat) (r : List UInt8) : List UInt8 :=
  if r.length ≤ room then pce (kindOf begun true) r
  else pce (kindOf begun false) (r.take room) ++ layGo true 505 (r.drop room)
termination_by r.length + (if room = 0 then 1 else 0)
decreasing_by
  rw [List.length_drop, if_neg (by decide)]
  split <;> omega
theorem layGo_last {b : Bool} {room : Nat} {r : List UInt8} (h : r.length ≤ room) : layGo b room r = pce (kindOf b true) r := by
  rw [layGo, if_pos h]
theorem layGo_more {b : Bool} {room : Nat} {r : List UInt8} (h : room < r.length) : layGo b room r = pce (kindOf b false) (r.take room) ++ layGo true 505 (r.drop room) := by
  rw [layGo, if_neg (by omega)]
def lay (at_ : Nat) (r : List UInt8) : List UInt8 := List.replicate (gapOf at_) 0 ++ layGo false (roomOf at_) r
/-- how many bytes the pieces take -/
theorem layGo_len (n : Nat) : ∀ (r : List UInt8) (b : Bool) (room : Nat), r.length + (if room = 0 then 1 else 0) ≤ n → (layGo b room r).length = r.length + 7 * (1 + (r.length - room + 504) / 505) := by
  induction n with
  | zero =>
    intro r b room h
    have h0 : r.length = 0 := by omega
    have : r = [] := List.length_eq_zero_iff.1 h0
    subst this
    rw [layGo_last (by simp), pce_len]; simp
  | succ n ih =>
    intro r b room h
    by_cases hr : r.length ≤ room
    · rw [layGo_last hr, pce_len, show r.length - room = 0 by omega]; omega
    · rw [layGo_more (by omega), List.length_append, pce_len, ih _ _ _ (by
        rw [List.length_drop]
        by_cases h0 : room = 0
        · simp [h0] at h ⊢; omega
        · simp [h0] at h ⊢; omega), List.length_take, List.length_drop, Nat.min_eq_left (by omega)]
      have e : r.length - room + 504 = (r.length - room - 505 + 504) + 505 ∨ r.length - room ≤ 505 := by omega
      rcases e with e | e
      · rw [e, Nat.add_div_right _ (by decide)]; omega
      · rw [show (r.length - room - 505 + 504) / 505 = 0 by omega, show (r.length - room + 504) / 505 = 1 by omega]; omega
theorem lay_len (a : Nat) (r : List UInt8) : (lay a r).length = gapOf a + r.length + 7 * (1 + (r.length - roomOf a + 504) / 505) := by
  unfold lay
  rw [List.length_append, List.length_replicate, layGo_len _ r false (roomOf a) (Nat.le_refl _)]; omega
theorem gap_few {a : Nat} (h : 512 - a % 512 < 7) : gapOf a = 512 - a % 512 := if_pos h
theorem room_few {a : Nat} (h : 512 - a % 512 < 7) : roomOf a = 505 := if_pos h
theorem gap_many {a : Nat} (h : ¬ 512 - a % 512 < 7) : gapOf a = 0 := if_neg h
theorem room_many {a : Nat} (h : ¬ 512 - a % 512 < 7) : roomOf a = 512 - a % 512 - 7 := if_neg h
theorem gap_zero : gapOf 0 = 0 := rfl
theorem room_zero : roomOf 0 = 505 := rfl
attribute [irreducible] gapOf roomOf pce lay
end Go.Proofs.YtdkgieaanpfhcaaGreatDoor
