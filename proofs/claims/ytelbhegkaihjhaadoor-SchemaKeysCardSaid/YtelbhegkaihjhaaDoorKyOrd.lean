/-
  Texts by their bytes: what stands ahead of what, and what stands behind a beginning: plain mathematics. No condition but those stated.
-/
import Derived.Test.YtelbhegkaihjhaaDoorKyAwake
import Derived.Laws.Cover1
namespace Go.Proofs.YtelbhegkaihjhaaDoor
open Go.RowKit

theorem bl_nil (l : List UInt8) : Op.bytesLess l [] = false := by cases l <;> rfl
theorem bl_first (y : UInt8) (l : List UInt8) : Op.bytesLess [] (y :: l) = true := rfl
theorem bl_lt {x y : UInt8} (h : x.toNat < y.toNat) (l k : List UInt8) : Op.bytesLess (x :: l) (y :: k) = true := by
  have : x < y := UInt8.lt_iff_toNat_lt.2 h
  simp [Op.bytesLess, this]
theorem bl_gt {x y : UInt8} (h : y.toNat < x.toNat) (l k : List UInt8) : Op.bytesLess (x :: l) (y :: k) = false := by
  have h1 : ¬ x < y := fun e => by have := UInt8.lt_iff_toNat_lt.1 e; omega
  have h2 : ¬ x = y := fun e => by subst e; omega
  simp [Op.bytesLess, h1, h2]
theorem bl_eq (x : UInt8) (l k : List UInt8) : Op.bytesLess (x :: l) (x :: k) = Op.bytesLess l k := by
  have h1 : ¬ x < x := fun e => by have := UInt8.lt_iff_toNat_lt.1 e; omega
  simp [Op.bytesLess, h1]
theorem pre_ne {x y : UInt8} (h : ¬ x = y) (l k : List UInt8) : (x :: l).isPrefixOf (y :: k) = false := by simp [List.isPrefixOf, h]
theorem pre_eq (x : UInt8) (l k : List UInt8) : (x :: l).isPrefixOf (x :: k) = l.isPrefixOf k := by simp [List.isPrefixOf]
theorem toNat_ne {x y : UInt8} (h : ¬ x.toNat = y.toNat) : ¬ x = y := fun e => h (by rw [e])
theorem toNat_eq {x y : UInt8} (h : x.toNat = y.toNat) : x = y := UInt8.toNat_inj.1 h
theorem after_l1 : ∀ (p t : List UInt8), (∀ c ∈ p, c.toNat = 255) → (!Op.bytesLess t p) = p.isPrefixOf t
  | [], t, _ => by rw [bl_nil]; simp
  | x :: p, [], _ => by rw [bl_first]; rfl
  | x :: p, y :: t, h => by
    have hx := h x (by simp)
    have hy := y.toNat_lt
    by_cases e : y.toNat = 255
    · obtain rfl : y = x := toNat_eq (by omega)
      rw [bl_eq, pre_eq]
      exact after_l1 p t (fun c hc => h c (by simp [hc]))
    · rw [bl_lt (by omega), pre_ne (toNat_ne (by omega))]; rfl
theorem after_l2 (c d : UInt8) (hd : d.toNat = c.toNat + 1) (ff : List UInt8) (hf : ∀ c ∈ ff, c.toNat = 255) : ∀ (q t : List UInt8), (!Op.bytesLess t (q ++ c :: ff) && Op.bytesLess t (q ++ [d])) = (q ++ c :: ff).isPrefixOf t
  | [], [] => by rw [List.nil_append, bl_first]; rfl
  | [], y :: t => by
    rw [List.nil_append, List.nil_append]
    by_cases h1 : y.toNat < c.toNat
    · rw [bl_lt h1, pre_ne (toNat_ne (by omega))]; rfl
    · by_cases h2 : y.toNat = c.toNat
      · obtain rfl : y = c := toNat_eq h2
        rw [bl_eq, pre_eq, bl_lt (by omega), Bool.and_true, after_l1 ff t hf]
      · have h3 : Op.bytesLess (y :: t) [d] = false := by
          by_cases h4 : y.toNat = d.toNat
          · obtain rfl : y = d := toNat_eq h4
            rw [bl_eq, bl_nil]
          · rw [bl_gt (by omega)]
        rw [h3, pre_ne (toNat_ne (by omega)), Bool.and_false]
  | x :: q, [] => by rw [List.cons_append, bl_first]; rfl
  | x :: q, y :: t => by
    rw [List.cons_append, List.cons_append]
    by_cases h1 : y.toNat < x.toNat
    · rw [bl_lt h1, pre_ne (toNat_ne (by omega))]; rfl
    · by_cases h2 : y.toNat = x.toNat
      · obtain rfl : y = x := toNat_eq h2
        rw [bl_eq, bl_eq, pre_eq, after_l2 c d hd ff hf q t]
      · rw [bl_gt (show x.toNat < y.toNat by omega) t (q ++ [d]), pre_ne (toNat_ne (by omega)), Bool.and_false]
theorem pre_app : ∀ (p s : List UInt8), p.isPrefixOf (p ++ s) = true
  | [], s => by simp
  | x :: p, s => by rw [List.cons_append, pre_eq]; exact pre_app p s
theorem bl_app : ∀ (p s : List UInt8), Op.bytesLess (p ++ s) p = false
  | [], s => bl_nil _
  | x :: p, s => by rw [List.cons_append, bl_eq]; exact bl_app p s
/-- where the last byte below 255 stands -/
theorem last_below (p : ByteArray) : (∀ i (hi : i < p.size), p[i].toNat = 255) ∨ ∃ k, ∃ hk : k < p.size, p[k].toNat < 255 ∧ ∀ i (hi : i < p.size), k < i → p[i].toNat = 255 := by
  have key : ∀ n, n ≤ p.size → (∀ i (hi : i < p.size), n ≤ i → p[i].toNat = 255) → (∀ i (hi : i < p.size), p[i].toNat = 255) ∨ ∃ k, ∃ hk : k < p.size, p[k].toNat < 255 ∧ ∀ i (hi : i < p.size), k < i → p[i].toNat = 255 := by
    intro n
    induction n with
    | zero => intro _ h; exact .inl fun i hi => h i hi (Nat.zero_le _)
    | succ n ih =>
      intro hn h
      have hl := p[n].toNat_lt
      by_cases e : p[n].toNat = 255
      · exact ih (by omega) fun i hi hni => by
          by_cases e2 : i = n
          · subst e2; exact e
          · exact h i hi (by omega)
      · exact .inr ⟨n, by omega, by omega, fun i hi hni => h i hi (by omega)⟩
  exact key p.size (Nat.le_refl _) fun i hi h => by omega
end Go.Proofs.YtelbhegkaihjhaaDoor
