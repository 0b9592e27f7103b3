/-
  The Go text of edits, walked: whether two are the same; Light. Conditions: as each theorem states.
-/
import Derived.Test.YtkocekogkpemiaaDoorEdJ
import Derived.Deep.RegionHeldLaw
namespace Go.Proofs.YtkocekogkpemiaaDoor.Ed
open Go.RowKit
open Go.Proofs.YtkocekogkpemiaaDoor
open Vi Ba

theorem neq_fil (a : Fil) (w : World) : (binOp .neq 45 a.val a.val).run Tryd.prog w = .ok (.bool false) w := by
  unfold Fil.val
  go_simp
theorem neq_gon (a : Gon) (w : World) : (binOp .neq 72 (.agg #[.int .i64 a.level, .int .u64 a.number]) (.agg #[.int .i64 a.level, .int .u64 a.number])).run Tryd.prog w = .ok (.bool false) w := by
  go_simp
theorem fil_eq (a b : Fil) : a = b ↔ a.level = b.level ∧ a.number = b.number ∧ a.size = b.size ∧ a.count = b.count ∧ a.least = b.least ∧ a.most = b.most := by
  obtain ⟨a1, a2, a3, a4, a5, a6⟩ := a
  obtain ⟨b1, b2, b3, b4, b5, b6⟩ := b
  simp
theorem ba_eq {a b : ByteArray} (h : a.toList = b.toList) : a = b := by
  rw [Lib.toList_data, Lib.toList_data] at h
  rw [← bs_of a, ← bs_of b, h]
theorem neq_fil_yes (a b : Fil) (h : a ≠ b) (w : World) : (binOp .neq 45 a.val b.val).run Tryd.prog w = .ok (.bool true) w := by
  obtain ⟨a1, a2, a3, a4, a5, a6⟩ := a
  obtain ⟨b1, b2, b3, b4, b5, b6⟩ := b
  unfold Fil.val
  simp only
  go_simp
  intro h1 h2 h3 h4 h5 h6
  have e2 : a2 = b2 := by omega
  have e3 : a3 = b3 := by omega
  have e4 : a4 = b4 := by omega
  exact h (by rw [h1, e2, e3, e4, ba_eq h5, ba_eq h6])
theorem neq_gon_yes (a b : Gon) (h : a ≠ b) (w : World) : (binOp .neq 72 (.agg #[.int .i64 a.level, .int .u64 a.number]) (.agg #[.int .i64 b.level, .int .u64 b.number])).run Tryd.prog w = .ok (.bool true) w := by
  obtain ⟨a1, a2⟩ := a
  obtain ⟨b1, b2⟩ := b
  simp only
  go_simp
  intro h1 h2
  have e2 : a2 = b2 := by omega
  exact h (by rw [h1, e2])
def LiRel (w : World) (k : Nat) (i : Value) (wr : World) : Prop := ∃ j : Nat, j ≤ k ∧ i = .int .i64 (j : Nat) ∧ Below w.heap.size w wr
theorem first_diff {T : Type} : ∀ (l m : List T), l.length = m.length → l ≠ m → ∃ k, ∃ (h1 : k < l.length) (h2 : k < m.length), l[k] ≠ m[k] ∧ ∀ i (g1 : i < l.length) (g2 : i < m.length), i < k → l[i] = m[i]
  | [], [], _, h => absurd rfl h
  | [], _ :: _, h, _ => by simp at h
  | _ :: _, [], h, _ => by simp at h
  | x :: l, y :: m, hl, h => by
    by_cases e : x = y
    · subst e
      obtain ⟨k, h1, h2, h3, h4⟩ := first_diff l m (by simpa using hl) (fun e => h (by rw [e]))
      refine ⟨k + 1, by simp; omega, by simp; omega, by simpa using h3, fun i g1 g2 hi => ?_⟩
      match i with
      | 0 => rfl
      | i + 1 => simpa using h4 i (by simpa using g1) (by simpa using g2) (by omega)
    · exact ⟨0, by simp, by simp, by simpa using e, fun i _ _ hi => by omega⟩

end Go.Proofs.YtkocekogkpemiaaDoor.Ed
