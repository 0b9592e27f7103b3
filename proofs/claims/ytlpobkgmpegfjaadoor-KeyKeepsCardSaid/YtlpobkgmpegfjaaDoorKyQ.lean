/-
  What the law of rows and keys calls, in the form in which it calls it: rows made plain, keys made, parsed, compared. Conditions: as each theorem states.
-/
import Derived.Test.YtlpobkgmpegfjaaDoorKyP
import Derived.Test.YtlpobkgmpegfjaaDoorKyN
import Derived.Test.YtlpobkgmpegfjaaDoorKyM
import Derived.Test.YtlpobkgmpegfjaaDoorKyG
namespace Go.Proofs.YtlpobkgmpegfjaaDoor
open Go.RowKit
open Vi

theorem pplain_ok {p : KPart} (h : p.ok) : (pplain p).ok := by
  obtain ⟨h0, h1, h2, h3⟩ := h
  unfold pplain kUp kDown kCount kText KPart.ok
  split
  · simp; omega
  · split
    · simp; omega
    · split
      · simp; omega
      · split
        · simp
        · simp; omega
theorem pplain_size {p : KPart} (h : p.s.size ≤ 300) : (pplain p).s.size ≤ 9223372036854775807 := by
  have hz : (⟨#[]⟩ : ByteArray).size = 0 := rfl
  unfold pplain kUp kDown kCount kText
  split
  · simp [hz]
  · split
    · simp [hz]
    · split
      · simp [hz]
      · split
        · simp; omega
        · simp [hz]
theorem mkGo_short : ∀ (l : List KPart) (k K : List UInt8), mkGo k l = (K, 0) → k.length ≤ 200 → K.length ≤ 200
  | [], k, K, h, hk => by cases h; exact hk
  | p :: l, k, K, h, hk => by
    rw [mkGo] at h
    split at h
    · split at h
      · cases h
      · exact mkGo_short l _ K h (by rw [List.length_append]; omega)
    · rename_i h0; injection h with h1 h2; exact absurd h2 h0
theorem owns_cap {w : World} {B : Nat} {e : TypeId} {s n k c : Nat} {A : Option Addr} {xs : List Value} (h : w.ownsRow B e s (.slice A k c) n xs) : n ≤ c := by
  rcases h.2 with ⟨h1, h0⟩ | ⟨g, cap, cur, h1, _, _, hn, _⟩
  · omega
  · injection h1 with _ _ h3; omega
theorem plain_row {w : World} (A : Option Addr) (c : Nat) (l a : List KPart) (ha : a = l.map pplain) (hl : l.length ≤ 1000) (hr : PRow w A l) (ho : ∀ p ∈ l, p.ok) :
    Calls Tryd.prog 18 #[.slice A l.length c] w fun e w' => (∃ A' c', e = .returned (.slice A' a.length c') ∧ PRow w' A' a ∧ a.length ≤ c') ∧ Below w.heap.size w w' := by
  refine (plain_any A c l hl hr ho).mono ?_
  rintro e w' ⟨⟨v, rfl, hown⟩, hb⟩
  subst ha
  have e1 : l.length = (l.map pplain).length := by simp
  rw [e1] at hown
  obtain ⟨A', c', rfl, hp⟩ := prow_of_owns hown
  exact ⟨⟨A', c', rfl, hp, owns_cap hown⟩, hb⟩
theorem parts_row {w : World} (a : List KPart) (K : List UInt8) (hK : mkGo [] a = (K, 0)) (ho : ∀ p ∈ a, p.ok) (hp : ∀ p ∈ a, pplain p = p) (m : Int) (hm : w.cell? ⟨0, 0, none⟩ = some (.int .i64 m)) :
    Calls Tryd.prog 12 #[.string (bs K)] w fun e w' => (∃ A' c', e = .returned (.tuple #[.slice A' a.length c', .int .i64 0]) ∧ PRow w' A' a) ∧ Below w.heap.size w w' := by
  have hs := mkGo_short a [] K hK (by simp)
  have hq := pparts_made ho hK
  rw [plain_map a hp] at hq
  refine (parts_any K (by omega) m hm).mono ?_
  rintro e w' ⟨h, hb⟩
  refine ⟨?_, hb⟩
  rcases h with ⟨v, a', rfl, _, hq', hown⟩ | ⟨_, h1 | h1⟩
  · rw [hq] at hq'
    injection hq' with hq'
    subst hq'
    obtain ⟨A', c', rfl, hpr⟩ := prow_of_owns hown
    exact ⟨A', c', rfl, hpr⟩
  · omega
  · rw [hq] at h1; cases h1
theorem same_row {w : World} (A B : Option Addr) (c d : Nat) (la lb : List KPart) (t : Bool) (ht : t = true ↔ la = lb) (hla : la.length ≤ 1000) (hlb : lb.length ≤ 1000) (ha : PRow w A la) (hb : PRow w B lb) :
    Calls Tryd.prog 19 #[.slice A la.length c, .slice B lb.length d] w fun e w' => e = .returned (.bool t) ∧ Below w.heap.size w w' := by
  refine (same_any A B c d la lb hla hlb ha hb).mono ?_
  rintro e w' ⟨h, hw⟩
  refine ⟨?_, hw⟩
  rcases h with ⟨rfl, h⟩ | ⟨rfl, h⟩
  · rw [ht.2 h]
  · cases t
    · rfl
    · exact absurd (ht.1 rfl) h
theorem prow_take {w : World} {B : Option Addr} {l : List KPart} (h : PRow w B l) (n : Nat) : PRow w B (l.take n) := fun h0 => by
  rw [List.length_take] at h0
  obtain ⟨a, e, hlt, hc⟩ := h (by omega)
  refine ⟨a, e, hlt, fun i hi => ?_⟩
  rw [List.length_take] at hi
  rw [List.getElem_take]
  exact hc i (by omega)
end Go.Proofs.YtlpobkgmpegfjaaDoor
