/-
  A row of parts that was appended to, as one that is read. Conditions: as each theorem states.
-/
import Derived.Test.YtelbhegkaihjhaaDoorKyM
namespace Go.Proofs.YtelbhegkaihjhaaDoor
open Go.RowKit
open Vi

theorem flat_at : ∀ (l : List KPart) (i : Nat) (hi : i < l.length) (r : Nat), r < 4 → (l.flatMap KPart.cells)[i * 4 + r]? = l[i].cells[r]?
  | p :: l, 0, _, r, hr => by
    rw [List.flatMap_cons, Nat.zero_mul, Nat.zero_add, List.getElem?_append_left (by simpa [KPart.cells] using hr)]; rfl
  | p :: l, i + 1, hi, r, hr => by
    have e : (i + 1) * 4 + r - p.cells.length = i * 4 + r := by simp [KPart.cells]; omega
    rw [List.flatMap_cons, List.getElem?_append_right (by simp [KPart.cells]; omega), e, flat_at l i (by simpa using hi) r hr]; rfl
theorem add_flat (g k : Nat) : (⟨g, 0, none⟩ : Addr).add k = ⟨g, k, none⟩ := by unfold Addr.add; split <;> simp_all
theorem prow_of_owns {w : World} {B : Nat} {v : Value} {l : List KPart} (h : w.ownsRow B 49 4 v l.length (l.flatMap KPart.cells)) :
    ∃ A c, v = .slice A l.length c ∧ PRow w A l := by
  have hc := fun g hg => h.cells (g := g) hg
  rcases h.2 with ⟨rfl, h0⟩ | ⟨g, cap, cur, rfl, hb, hg, _⟩
  · exact ⟨none, 0, by rw [h0], fun h1 => by omega⟩
  · refine ⟨some ⟨g, 0, none⟩, cap, rfl, fun _ => ⟨_, rfl, (Array.getElem?_eq_some_iff.1 hg).1, fun i hi => ?_⟩⟩
    have hk : ∀ r u, r < 4 → l[i].cells[r]? = some u → w.cell? ⟨g, i * 4 + r, none⟩ = some u := fun r u hr hu => by
      have := hc g rfl (i * 4 + r) u (by rw [flat_at l i hi r hr]; exact hu)
      rwa [add_flat] at this
    rw [add_flat]
    exact ⟨hk 0 _ (by decide) rfl, hk 1 _ (by decide) rfl, hk 2 _ (by decide) rfl, hk 3 _ (by decide) rfl⟩
theorem pplain_pplain (p : KPart) : pplain (pplain p) = pplain p := by
  unfold pplain
  by_cases e1 : p.sort = 105
  · rw [if_pos e1]; rfl
  by_cases e2 : p.sort = 100
  · rw [if_neg e1, if_pos e2]; rfl
  by_cases e3 : p.sort = 117
  · rw [if_neg e1, if_neg e2, if_pos e3]; rfl
  by_cases e4 : p.sort = 116
  · rw [if_neg e1, if_neg e2, if_neg e3, if_pos e4]; rfl
  · rw [if_neg e1, if_neg e2, if_neg e3, if_neg e4]
    simp [e1, e2, e3, e4]
end Go.Proofs.YtelbhegkaihjhaaDoor
