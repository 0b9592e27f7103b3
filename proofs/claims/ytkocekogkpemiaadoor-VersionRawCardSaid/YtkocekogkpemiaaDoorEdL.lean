/-
  The Go text of edits, walked: Same, Light. Conditions: as each theorem states.
-/
import Derived.Test.YtkocekogkpemiaaDoorEdK
namespace Go.Proofs.YtkocekogkpemiaaDoor.Ed
open Go.RowKit
open Go.Proofs.YtkocekogkpemiaaDoor
open Vi Ba

theorem two_below {w w2 : World} {o1 o2 : Obj} (h : Below ((w.alloc o1).alloc o2).heap.size ((w.alloc o1).alloc o2) w2) : Below w.heap.size w w2 :=
  (((Below.refl _ _).alloc (Nat.le_refl _) _).alloc (by simp) _).trans (h.mono (by simp; omega))
theorem two_on (w : World) (o1 o2 : Obj) : Below w.heap.size w ((w.alloc o1).alloc o2) := ((Below.refl _ _).alloc (Nat.le_refl _) _).alloc (by simp) _
theorem alloc2_cells5 {w w2 : World} {x0 x1 x2 x3 x4 y0 y1 y2 y3 y4 : Value} {t : TypeId} (h : Below ((w.alloc (.cells #[x0, x1, x2, x3, x4] t (0, 0))).alloc (.cells #[y0, y1, y2, y3, y4] t (0, 0))).heap.size ((w.alloc (.cells #[x0, x1, x2, x3, x4] t (0, 0))).alloc (.cells #[y0, y1, y2, y3, y4] t (0, 0))) w2) :
    (w2.cell? ⟨w.heap.size, 0, none⟩ = some x0 ∧ w2.cell? ⟨w.heap.size, 1, none⟩ = some x1 ∧ w2.cell? ⟨w.heap.size, 2, none⟩ = some x2 ∧ w2.cell? ⟨w.heap.size, 3, none⟩ = some x3 ∧ w2.cell? ⟨w.heap.size, 4, none⟩ = some x4) ∧
    (w2.cell? ⟨w.heap.size + 1, 0, none⟩ = some y0 ∧ w2.cell? ⟨w.heap.size + 1, 1, none⟩ = some y1 ∧ w2.cell? ⟨w.heap.size + 1, 2, none⟩ = some y2 ∧ w2.cell? ⟨w.heap.size + 1, 3, none⟩ = some y3 ∧ w2.cell? ⟨w.heap.size + 1, 4, none⟩ = some y4) := by
  have h1 : w2.heap[w.heap.size]? = some (.cells #[x0, x1, x2, x3, x4] t (0, 0)) := by
    rw [h.block _ (by simp; omega), (((Below.refl _ _).alloc (Nat.le_refl _) _ : Below (w.alloc (.cells #[x0, x1, x2, x3, x4] t (0, 0))).heap.size _ ((w.alloc (.cells #[x0, x1, x2, x3, x4] t (0, 0))).alloc (.cells #[y0, y1, y2, y3, y4] t (0, 0))))).block _ (by simp)]
    exact heap_alloc_new _ _
  have h2 : w2.heap[w.heap.size + 1]? = some (.cells #[y0, y1, y2, y3, y4] t (0, 0)) := by
    rw [h.block _ (by simp)]
    have := heap_alloc_new (w.alloc (.cells #[x0, x1, x2, x3, x4] t (0, 0))) (.cells #[y0, y1, y2, y3, y4] t (0, 0))
    simpa using this
  exact ⟨(cells5 h1).1, (cells5 h2).1⟩
section
variable {w : World} {a b : Edt} {A A2 G G2 : Option Addr} {c c2 d d2 : Nat}
theorem edt_ne (h : a ≠ b) : a.log ≠ b.log ∨ (a.log = b.log ∧ a.next ≠ b.next) ∨ (a.log = b.log ∧ a.next = b.next ∧ a.seq ≠ b.seq) ∨ (a.log = b.log ∧ a.next = b.next ∧ a.seq = b.seq ∧ a.come ≠ b.come) ∨ (a.log = b.log ∧ a.next = b.next ∧ a.seq = b.seq ∧ a.come = b.come ∧ a.go ≠ b.go) := by
  obtain ⟨a1, a2, a3, a4, a5⟩ := a
  obtain ⟨b1, b2, b3, b4, b5⟩ := b
  simp only
  by_cases e1 : a1 = b1
  · by_cases e2 : a2 = b2
    · by_cases e3 : a3 = b3
      · by_cases e4 : a4 = b4
        · right; right; right; right
          refine ⟨e1, e2, e3, e4, fun e5 => h (by rw [e1, e2, e3, e4, e5])⟩
        · right; right; right; left; exact ⟨e1, e2, e3, e4⟩
      · right; right; left; exact ⟨e1, e2, e3⟩
    · right; left; exact ⟨e1, e2⟩
  · left; exact e1
end
def okF (a : Fil) : Prop := a.least.size ≤ 300 ∧ a.most.size ≤ 300
def okE (e : Edt) : Prop := (∀ a ∈ e.come, okF a) ∧ e.come.length ≤ 210 ∧ e.go.length ≤ 210
theorem first_bad {l : List Fil} (h : ¬ ∀ a ∈ l, okF a) : ∃ k, ∃ hk : k < l.length, ¬ okF l[k] ∧ ∀ i (hi : i < l.length), i < k → okF l[i] := by
  induction l with
  | nil => exact absurd (fun s hs => by cases hs) h
  | cons x l ih =>
    by_cases hx : okF x
    · obtain ⟨k, hk, h1, h2⟩ := ih (fun h' => h (fun s hs => by
        rcases List.mem_cons.1 hs with rfl | hs
        · exact hx
        · exact h' s hs))
      refine ⟨k + 1, by simp; omega, by simpa using h1, fun i hi hlt => ?_⟩
      match i with
      | 0 => simpa using hx
      | i + 1 => simpa using h2 i (by simpa using hi) (by omega)
    · exact ⟨0, by simp, by simpa using hx, fun i hi hlt => by omega⟩
def LlRel (w : World) (o : Obj) (k : Nat) (i : Value) (wr : World) : Prop := ∃ j : Nat, j ≤ k ∧ i = .int .i64 (j : Nat) ∧ Below (w.heap.size + 1) (w.alloc o) wr
end Go.Proofs.YtkocekogkpemiaaDoor.Ed
