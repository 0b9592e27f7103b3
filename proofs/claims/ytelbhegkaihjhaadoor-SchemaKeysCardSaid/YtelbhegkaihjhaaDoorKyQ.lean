/-
  What the law of rows and keys calls, in the form in which it calls it: rows made plain, keys made, parsed, compared. Conditions: as each theorem states.
-/
import Derived.Test.YtelbhegkaihjhaaDoorKyP
import Derived.Test.YtelbhegkaihjhaaDoorKyN
import Derived.Test.YtelbhegkaihjhaaDoorKyM
import Derived.Test.YtelbhegkaihjhaaDoorKyG
namespace Go.Proofs.YtelbhegkaihjhaaDoor
open Go.RowKit
open Vi

theorem pplain_ok {p : KPart} (h : p.ok) : (pplain p).ok := by
  obtain ⟨h0, h1, h2, h3⟩ := h
  unfold pplain kUp kDown kCount kText KPart.ok
  split
  · simp; omega
  · split
    · simp; omega
    · split
      · simp; omega
      · split
        · simp
        · simp; omega
theorem pplain_size {p : KPart} (h : p.s.size ≤ 300) : (pplain p).s.size ≤ 9223372036854775807 := by
  have hz : (⟨#[]⟩ : ByteArray).size = 0 := rfl
  unfold pplain kUp kDown kCount kText
  split
  · simp [hz]
  · split
    · simp [hz]
    · split
      · simp [hz]
      · split
        · simp; omega
        · simp [hz]
theorem mkGo_short : ∀ (l : List KPart) (k K : List UInt8), mkGo k l = (K, 0) → k.length ≤ 200 → K.length ≤ 200
  | [], k, K, h, hk => by cases h; exact hk
  | p :: l, k, K, h, hk => by
    rw [mkGo] at h
    split at h
    · split at h
      · cases h
      · exact mkGo_short l _ K h (by rw [List.length_append]; omega)
    · rename_i h0; injection h with h1 h2; exact absurd h2 h0
theorem owns_cap {w : World} {B : Nat} {e : TypeId} {s n k c : Nat} {A : Option Addr} {xs : List Value} (h : w.ownsRow B e s (.slice A k c) n xs) : n ≤ c := by
  rcases h.2 with ⟨h1, h0⟩ | ⟨g, cap, cur, h1, _, _, hn, _⟩
  · omega
  · injection h1 with _ _ h3; omega
theorem parts_row {w : World} (a : List KPart) (K : List UInt8) (hK : mkGo [] a = (K, 0)) (ho : ∀ p ∈ a, p.ok) (hp : ∀ p ∈ a, pplain p = p) (m : Int) (hm : w.cell? ⟨0, 0, none⟩ = some (.int .i64 m)) :
    Calls Tryd.prog 23 #[.string (bs K)] w fun e w' => (∃ A' c', e = .returned (.tuple #[.slice A' a.length c', .int .i64 0]) ∧ PRow w' A' a) ∧ Below w.heap.size w w' := by
  have hs := mkGo_short a [] K hK (by simp)
  have hq := pparts_made ho hK
  rw [plain_map a hp] at hq
  refine (parts_any K (by omega) m hm).mono ?_
  rintro e w' ⟨h, hb⟩
  refine ⟨?_, hb⟩
  rcases h with ⟨v, a', rfl, _, hq', hown⟩ | ⟨_, h1 | h1⟩
  · rw [hq] at hq'
    injection hq' with hq'
    subst hq'
    obtain ⟨A', c', rfl, hpr⟩ := prow_of_owns hown
    exact ⟨A', c', rfl, hpr⟩
  · omega
  · rw [hq] at h1; cases h1
theorem prow_take {w : World} {B : Option Addr} {l : List KPart} (h : PRow w B l) (n : Nat) : PRow w B (l.take n) := fun h0 => by
  rw [List.length_take] at h0
  obtain ⟨a, e, hlt, hc⟩ := h (by omega)
  refine ⟨a, e, hlt, fun i hi => ?_⟩
  rw [List.length_take] at hi
  rw [List.getElem_take]
  exact hc i (by omega)
end Go.Proofs.YtelbhegkaihjhaaDoor
