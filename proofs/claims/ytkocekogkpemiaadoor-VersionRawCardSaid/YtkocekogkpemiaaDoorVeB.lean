/-
  The Go text of versions, walked: ahead, stands, mayCome, Count. Conditions: as each theorem states.
-/
import Derived.Test.YtkocekogkpemiaaDoorVeA
namespace Go.Proofs.YtkocekogkpemiaaDoor.Ve
open Go.RowKit
open Go.Proofs.YtkocekogkpemiaaDoor
open Vi Ba Ed

theorem two_new (w : World) (o1 o2 : Obj) : Below w.heap.size w ((w.alloc o1).alloc o2) :=
  ((Below.refl _ _).alloc (Nat.le_refl _) o1).alloc ((Below.refl _ _).alloc (Nat.le_refl _) o1).size o2
theorem two_then {w w2 : World} {o1 o2 : Obj} (h : Below ((w.alloc o1).alloc o2).heap.size ((w.alloc o1).alloc o2) w2) : Below w.heap.size w w2 := (two_new w o1 o2).trans (h.mono (two_new w o1 o2).size)
theorem two_cells {w w2 : World} {x0 x1 x2 x3 x4 y0 y1 y2 y3 y4 : Value} {t u : TypeId} (h : Below ((w.alloc (.cells #[x0, x1, x2, x3, x4] t)).alloc (.cells #[y0, y1, y2, y3, y4] u)).heap.size ((w.alloc (.cells #[x0, x1, x2, x3, x4] t)).alloc (.cells #[y0, y1, y2, y3, y4] u)) w2) :
    w2.cell? ⟨w.heap.size, 4, none⟩ = some x4 ∧ w2.cell? ⟨w.heap.size + 1, 3, none⟩ = some y3 := by
  have e1 : (w.alloc (.cells #[x0, x1, x2, x3, x4] t)).heap.size = w.heap.size + 1 := by simp
  have e2 : ((w.alloc (.cells #[x0, x1, x2, x3, x4] t)).alloc (.cells #[y0, y1, y2, y3, y4] u)).heap.size = w.heap.size + 2 := by simp
  have h1 : w2.heap[w.heap.size]? = some (.cells #[x0, x1, x2, x3, x4] t (0, 0)) := (h.block w.heap.size (by omega)).trans (((MapKept.heap_alloc (w.alloc (.cells #[x0, x1, x2, x3, x4] t)) _).2 w.heap.size (by omega)).trans (MapKept.heap_alloc w _).1)
  have h2 : w2.heap[w.heap.size + 1]? = some (.cells #[y0, y1, y2, y3, y4] u (0, 0)) := by
    rw [h.block (w.heap.size + 1) (by omega), ← e1]
    exact (MapKept.heap_alloc (w.alloc (.cells #[x0, x1, x2, x3, x4] t)) _).1
  exact ⟨cell_in h1 4 _ rfl, cell_in h2 3 _ rfl⟩
theorem ahead_any (i : Nat) (a b : Fil) (w : World) :
    Calls Tryd.prog 27 #[.int .i64 i, fval a, fval b] w (QPost w (.bool (aheadB i a b))) := by
  obtain ⟨v1, n1, s1, c1, l1, m1⟩ := a
  obtain ⟨v2, n2, s2, c2, l2, m2⟩ := b
  unfold fval
  simp only
  have hbl : l1.toList = l1.data.toList := Lib.toList_data l1
  have hbl2 : l2.toList = l2.data.toList := Lib.toList_data l2
  by_cases hi : i = 0
  · subst hi
    have e : aheadB 0 ⟨v1, n1, s1, c1, l1, m1⟩ ⟨v2, n2, s2, c2, l2, m2⟩ = decide (n2 < n1) := by unfold aheadB; exact if_pos rfl
    rw [e]
    go_enter Tryd.func27, Tryd.ntmps27
    go_wp2
    go_ret
    exact ⟨rfl, two_new _ _ _⟩
  · have e : aheadB i ⟨v1, n1, s1, c1, l1, m1⟩ ⟨v2, n2, s2, c2, l2, m2⟩ = Op.bytesLess l1.data.toList l2.data.toList := by unfold aheadB; exact if_neg hi
    rw [e]
    have hi' : ((i : Int) == 0) = false := by simp; omega
    have hi2 : ¬ (i : Int) = 0 := by omega
    clear hi
    go_enter Tryd.func27, Tryd.ntmps27
    go_wp2
    go_ret
    exact ⟨rfl, two_new _ _ _⟩
theorem stands_any (i : Nat) (a b : Fil) (w : World) :
    Calls Tryd.prog 13 #[.int .i64 i, fval a, fval b] w (QPost w (.bool (standsB i a b))) := by
  have HA := Lib.hid (ahead_any i a b)
  obtain ⟨v1, n1, s1, c1, l1, m1⟩ := a
  obtain ⟨v2, n2, s2, c2, l2, m2⟩ := b
  have e : standsB i ⟨v1, n1, s1, c1, l1, m1⟩ ⟨v2, n2, s2, c2, l2, m2⟩ = (aheadB i ⟨v1, n1, s1, c1, l1, m1⟩ ⟨v2, n2, s2, c2, l2, m2⟩ && (decide (i = 0) || Op.bytesLess m1.data.toList l2.data.toList)) := rfl
  rw [e]
  clear e
  generalize aheadB i ⟨v1, n1, s1, c1, l1, m1⟩ ⟨v2, n2, s2, c2, l2, m2⟩ = x at *
  unfold fval at *
  simp only at *
  have hbl : m1.toList = m1.data.toList := Lib.toList_data m1
  have hbl2 : l2.toList = l2.data.toList := Lib.toList_data l2
  have hz : ((i : Int) == 0) = decide (i = 0) := by by_cases h : i = 0 <;> simp [h]
  cases x
  · go_enter Tryd.func13, Tryd.ntmps13
    go_wp2_with (go_at_call 27; (with_reducible refine (HA.out _).mono ?_); rintro e w2 ⟨rfl, hb2⟩; have B2 := Lib.hid hb2; clear hb2)
    go_ret
    exact ⟨rfl, two_then B2.out⟩
  · by_cases hi : i = 0
    · rw [decide_eq_true hi] at *
      clear hi
      go_enter Tryd.func13, Tryd.ntmps13
      go_wp2_with (go_at_call 27; (with_reducible refine (HA.out _).mono ?_); rintro e w2 ⟨rfl, hb2⟩; have B2 := Lib.hid hb2; clear hb2)
      go_ret
      exact ⟨rfl, two_then B2.out⟩
    · rw [decide_eq_false hi] at *
      clear hi
      go_enter Tryd.func13, Tryd.ntmps13
      go_wp2_with (go_at_call 27; (with_reducible refine (HA.out _).mono ?_); rintro e w2 ⟨rfl, hb2⟩; obtain ⟨k1, k2⟩ := two_cells hb2; have B2 := Lib.hid hb2; clear hb2)
      go_ret
      exact ⟨rfl, two_then B2.out⟩
end Go.Proofs.YtkocekogkpemiaaDoor.Ve
