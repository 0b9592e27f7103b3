/-
  The Go text that reads a text out of a key, walked. Conditions: as each theorem states.
-/
import Derived.Test.YtelbhegkaihjhaaDoorKyG
namespace Go.Proofs.YtelbhegkaihjhaaDoor
open Go.RowKit
open Vi

/-- a text, and what is behind it -/
def unesc : List UInt8 → Option (List UInt8 × List UInt8)
  | [] => none
  | c :: l => if c = 0 then (match l with
      | [] => none
      | d :: r => if d = 0 then some ([], r) else if d = 255 then (unesc r).map (fun x => (0 :: x.1, x.2)) else none)
    else (unesc l).map (fun x => (c :: x.1, x.2))
theorem unesc_other {c : UInt8} (h : ¬ c = 0) (l : List UInt8) : unesc (c :: l) = (unesc l).map (fun x => (c :: x.1, x.2)) := by
  conv => lhs; unfold unesc
  rw [if_neg h]
theorem unesc_end (r : List UInt8) : unesc (0 :: 0 :: r) = some ([], r) := by unfold unesc; simp
theorem unesc_on (r : List UInt8) : unesc (0 :: 255 :: r) = (unesc r).map (fun x => (0 :: x.1, x.2)) := by
  conv => lhs; unfold unesc
  simp
theorem unesc_stop : unesc [0] = none := by unfold unesc; simp
theorem unesc_bad {d : UInt8} (h1 : ¬ d = 0) (h2 : ¬ d = 255) (r : List UInt8) : unesc (0 :: d :: r) = none := by
  unfold unesc; simp [h1, h2]
/-- what is ahead of the first byte 0, and what is behind it -/
def cut0 (l : List UInt8) : List UInt8 × List UInt8 := ((Lib.cut l [0]).1, (Lib.cut l [0]).2.1)
theorem cut0_nil : cut0 [] = ([], []) := rfl
theorem cut0_zero (l : List UInt8) : cut0 (0 :: l) = ([], l) := by
  unfold cut0 Lib.cut; rw [idx_zero]; simp
theorem cut0_other {c : UInt8} (h : ¬ c = 0) (l : List UInt8) : cut0 (c :: l) = (c :: (cut0 l).1, (cut0 l).2) := by
  unfold cut0 Lib.cut
  rw [idx_other h]
  have h0 := Lib.index_ge l [0]
  by_cases hi : Lib.index l [0] = -1
  · simp [hi]
  · have e : (Lib.index l [0] + 1).toNat = (Lib.index l [0]).toNat + 1 := by omega
    have h1 : ¬ (Lib.index l [0] == -1) = true := by simpa using hi
    rw [if_neg h1, if_pos (show 0 ≤ Lib.index l [0] + 1 by omega), if_pos (show 0 ≤ Lib.index l [0] by omega), e]
    simp
def ahead (a : List UInt8) (o : Option (List UInt8 × List UInt8)) : Option (List UInt8 × List UInt8) := o.map fun x => (a ++ x.1, x.2)
theorem ahead_nil (o : Option (List UInt8 × List UInt8)) : ahead [] o = o := by cases o <;> rfl
theorem ahead_ahead (a b : List UInt8) (o : Option (List UInt8 × List UInt8)) : ahead a (ahead b o) = ahead (a ++ b) o := by cases o <;> simp [ahead]
theorem ahead_none (a : List UInt8) : ahead a none = none := rfl
/-- what follows the byte 0 -/
def onward : List UInt8 → Option (List UInt8 × List UInt8)
  | [] => none
  | d :: r => if d = 0 then some ([], r) else if d = 255 then ahead [0] (unesc r) else none
theorem unesc_cut : ∀ l : List UInt8, unesc l = ahead (cut0 l).1 (onward (cut0 l).2)
  | [] => by rw [cut0_nil]; rfl
  | c :: l => by
    by_cases hc : c = 0
    · subst hc
      rw [cut0_zero, ahead_nil]
      match l with
      | [] => exact unesc_stop
      | d :: r =>
        by_cases h0 : d = 0
        · subst h0; rw [unesc_end]; simp [onward]
        · by_cases h1 : d = 255
          · subst h1; rw [unesc_on]; simp only [onward]; rw [if_neg h0]; simp [ahead]
          · rw [unesc_bad h0 h1]; simp [onward, h0, h1]
    · rw [cut0_other hc, unesc_other hc, unesc_cut l]
      cases onward (cut0 l).2 <;> simp [ahead]
theorem cut0_len : ∀ l : List UInt8, (cut0 l).1.length + (cut0 l).2.length ≤ l.length
  | [] => by rw [cut0_nil]; simp
  | c :: l => by
    by_cases hc : c = 0
    · subst hc; rw [cut0_zero]; simp
    · have := cut0_len l; rw [cut0_other hc]; simp; omega
/-- one round of the text's loop -/
theorem cut0_shorter {l r : List UInt8} {d : UInt8} (h : (cut0 l).2 = d :: r) : r.length + 2 ≤ l.length := by
  have := cut0_len l
  rw [h] at this
  by_cases hl : l.length = r.length + 1
  · exfalso
    match l, hl with
    | c :: l', hl =>
      by_cases hc : c = 0
      · subst hc; rw [cut0_zero] at h; simp at h hl; subst h; simp at hl
      · rw [cut0_other hc] at h
        have := cut0_len l'
        simp at h
        rw [h] at this; simp at this hl; omega
  · simp at this; omega
end Go.Proofs.YtelbhegkaihjhaaDoor
