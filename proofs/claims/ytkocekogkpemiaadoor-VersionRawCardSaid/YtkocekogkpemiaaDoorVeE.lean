/-
  The document's own versions: what stands ahead; that both ways of telling come to the same. Conditions: as each theorem states.
-/
import Derived.Test.YtkocekogkpemiaaDoorVeD
import Derived.Test.YtkocekogkpemiaaDoorEdQ
namespace Go.Proofs.YtkocekogkpemiaaDoor.Ve
open Go.RowKit
open Go.Proofs.YtkocekogkpemiaaDoor
open Vi Ba Ed

theorem le_lt : ∀ a b c : List UInt8, Op.bytesLess b a = false → Op.bytesLess b c = true → Op.bytesLess a c = true
  | a, b, [], _, h2 => by cases b <;> cases h2
  | [], _, _ :: _, _, _ => rfl
  | x :: a, [], _ :: _, h1, _ => by cases h1
  | x :: a, y :: b, z :: c, h1, h2 => by
    unfold Op.bytesLess at h1 h2 ⊢
    have e1 : ¬ y < x := by intro h; simp [h] at h1
    by_cases e5 : x = y
    · subst e5
      have h1' : Op.bytesLess b a = false := by simpa [e1] using h1
      by_cases e6 : x < z
      · simp [e6]
      · have e7 : x = z ∧ Op.bytesLess b c = true := by simpa [e6] using h2
        obtain ⟨rfl, h2'⟩ := e7
        simp [le_lt a b c h1' h2']
    · have e2 : x.toNat < y.toNat := by
        have a2 : ¬ y.toNat < x.toNat := fun h => e1 (UInt8.lt_iff_toNat_lt.2 h)
        have a3 : ¬ x.toNat = y.toNat := fun h => e5 (UInt8.toNat_inj.1 h)
        omega
      have e3 : y.toNat ≤ z.toNat := by
        by_cases e6 : y < z
        · have := UInt8.lt_iff_toNat_lt.1 e6; omega
        · have e7 : y = z ∧ Op.bytesLess b c = true := by simpa [e6] using h2
          rw [e7.1]; omega
      have e4 : x < z := UInt8.lt_iff_toNat_lt.2 (by omega)
      simp [e4]
def raheadB (i : Nat) (a b : Fil) : Bool := if i = 0 then decide (b.number < a.number) else (lt a.least b.least || (a.least.data.toList == b.least.data.toList && decide (a.number < b.number)))
theorem stands_same {i : Nat} {a b : Fil} (h : chkA (atl i a) = 0) : (raheadB i a b && (decide (i = 0) || lt a.most b.least)) = standsB i a b := by
  unfold standsB raheadB aheadB
  by_cases hi : i = 0
  · simp [hi]
  · rw [if_neg hi, if_neg hi, decide_eq_false hi]
    cases hm : lt a.most b.least
    · simp
    · have h1 : Op.bytesLess a.most.data.toList a.least.data.toList = false := (chkA_ok.1 h).2.2.2.1
      have h2 : lt a.least b.least = true := le_lt _ _ _ h1 hm
      simp [h2]
theorem rahead_any (i : Nat) (a b : Fil) (w : World) :
    Calls Tryd.prog 15 #[.int .i64 i, fval a, fval b] w (QPost w (.bool (raheadB i a b))) := by
  obtain ⟨v1, n1, s1, c1, l1, m1⟩ := a
  obtain ⟨v2, n2, s2, c2, l2, m2⟩ := b
  unfold fval
  simp only
  have hbl : l1.toList = l1.data.toList := Lib.toList_data l1
  have hbl2 : l2.toList = l2.data.toList := Lib.toList_data l2
  by_cases hi : i = 0
  · subst hi
    have e : raheadB 0 ⟨v1, n1, s1, c1, l1, m1⟩ ⟨v2, n2, s2, c2, l2, m2⟩ = decide (n2 < n1) := by unfold raheadB; exact if_pos rfl
    rw [e]
    go_enter Tryd.func15, Tryd.ntmps15
    go_wp2
    go_ret
    exact ⟨rfl, two_new _ _ _⟩
  · have e : raheadB i ⟨v1, n1, s1, c1, l1, m1⟩ ⟨v2, n2, s2, c2, l2, m2⟩ = (Op.bytesLess l1.data.toList l2.data.toList || (l1.data.toList == l2.data.toList && decide (n1 < n2))) := by unfold raheadB; exact if_neg hi
    rw [e]
    have hi' : ((i : Int) == 0) = false := by simp; omega
    have hi2 : ¬ (i : Int) = 0 := by omega
    clear hi e
    cases h1 : Op.bytesLess l1.data.toList l2.data.toList
    · cases h2 : (l1.data.toList == l2.data.toList)
      · go_enter Tryd.func15, Tryd.ntmps15
        go_wp2
        go_ret
        exact ⟨rfl, two_new _ _ _⟩
      · go_enter Tryd.func15, Tryd.ntmps15
        go_wp2
        go_ret
        exact ⟨rfl, two_new _ _ _⟩
    · go_enter Tryd.func15, Tryd.ntmps15
      go_wp2
      go_ret
      exact ⟨rfl, two_new _ _ _⟩
end Go.Proofs.YtkocekogkpemiaaDoor.Ve
