/-
  A drawn region's allocs that may come in whatever order: what follows them is shown once. No seat's number stands here. Conditions: as each theorem states.
-/
import Derived.Test.YtelbhegkaihjhaaDoorKyA
import Derived.RegionTactic
import Derived.OrdersHeld
import Derived.Deep.RegionHeld
namespace Go.Proofs.YtelbhegkaihjhaaDoor
open Go.RowKit

section
variable {P : Program} {ops : Array Oper} {Q : Exit → Act → World → Prop} {md : Region.Mode} {S : World → Prop}
def subs : List Nat → List (List Nat)
  | [] => [[]]
  | x :: l => (subs l).map (x :: ·) ++ subs l
theorem subs_self : ∀ l : List Nat, l ∈ subs l
  | [] => by simp [subs]
  | x :: l => by rw [subs]; exact List.mem_append_left _ (List.mem_map.2 ⟨l, subs_self l, rfl⟩)
/-- which operations have come up: all below lo, and of the k from there on those that don't remain -/
def marks (n lo k : Nat) (rem : List Nat) : Array Bool := ((List.range n).map fun j => decide (j < lo) || (decide (j < lo + k) && !rem.contains j)).toArray
/-- the frame behind some of the allocs, whichever came first -/
def canon (A : Act) (lo k d : Nat) (rem : List Nat) (g : Nat → Nat) : Act :=
  { A with tmps := A.tmps.mapIdx fun j x => if lo + d ≤ j ∧ j < lo + k + d ∧ (j - d) ∉ rem then Value.pointer (some ⟨g (j - d), 0, none⟩) else x }
def lays (w : World) (Z : Obj) : Nat → World
  | 0 => w
  | n + 1 => (lays w Z n).alloc Z
theorem lays_size (w : World) (Z : Obj) : ∀ n, (lays w Z n).heap.size = w.heap.size + n
  | 0 => rfl
  | n + 1 => by rw [lays, show ((lays w Z n).alloc Z).heap.size = (lays w Z n).heap.size + 1 by simp, lays_size w Z n]; omega
/-- where those that came lie -/
def Laid (lo k : Nat) (rem : List Nat) (b m : Nat) (g : Nat → Nat) : Prop :=
  ∀ i, lo ≤ i → i < lo + k → i ∉ rem → b ≤ g i ∧ g i < b + m ∧ ∀ j, lo ≤ j → j < lo + k → j ∉ rem → i ≠ j → g i ≠ g j
theorem canon_put (A : Act) (lo k d : Nat) (rem : List Nat) (g : Nat → Nat) (i v : Nat) (h1 : lo ≤ i) (h2 : i < lo + k) (_hi : i ∈ rem) (hn : rem.Nodup) :
    (canon A lo k d rem g).put (some (i + d)) (.pointer (some ⟨v, 0, none⟩)) = canon A lo k d (rem.erase i) (fun j => if j = i then v else g j) := by
  unfold canon Act.put
  simp only
  congr 1
  apply Array.ext
  · simp
  · intro j hj1 hj2
    have hj3 : j < A.tmps.size := by simpa using hj1
    rw [Array.getElem_setIfInBounds (by simpa using hj1), Array.getElem_mapIdx, Array.getElem_mapIdx]
    by_cases hj : i + d = j
    · subst hj
      have : i ∉ rem.erase i := fun h => by
        have := (List.Nodup.mem_erase_iff hn).1 h
        exact this.1 rfl
      simp [this]; omega
    · rw [if_neg hj]
      by_cases hc : lo + d ≤ j ∧ j < lo + k + d
      · have hne : ¬ j - d = i := by omega
        have hm : (j - d) ∈ rem.erase i ↔ (j - d) ∈ rem := by
          rw [List.Nodup.mem_erase_iff hn]; exact ⟨fun h => h.2, fun h => ⟨hne, h⟩⟩
        by_cases hr : (j - d) ∈ rem
        · rw [if_neg (fun h => h.2.2 hr), if_neg (fun h => h.2.2 (hm.2 hr))]
        · rw [if_pos ⟨hc.1, hc.2, hr⟩, if_pos ⟨hc.1, hc.2, fun h => hr (hm.1 h)⟩, if_neg hne]
      · rw [if_neg (fun h => hc ⟨h.1, h.2.1⟩), if_neg (fun h => hc ⟨h.1, h.2.1⟩)]
theorem laid_put {lo k : Nat} {rem : List Nat} {b m : Nat} {g : Nat → Nat} (h : Laid lo k rem b m g) {i : Nat} (hn : rem.Nodup) :
    Laid lo k (rem.erase i) b (m + 1) (fun j => if j = i then b + m else g j) := by
  have out : ∀ j, j ≠ i → j ∉ rem.erase i → j ∉ rem := fun j hj hr hm => hr ((List.Nodup.mem_erase_iff hn).2 ⟨hj, hm⟩)
  intro a h1 h2 ha
  by_cases e : a = i
  · subst e
    refine ⟨by simp, by simp, fun j j1 j2 j3 j4 => ?_⟩
    have := (h j j1 j2 (out j (fun e => j4 e.symm) j3)).2.1
    have hne : ¬ j = a := fun e => j4 e.symm
    simp [hne]; omega
  · obtain ⟨x1, x2, x3⟩ := h a h1 h2 (out a e ha)
    simp only [if_neg e]
    refine ⟨x1, by omega, fun j j1 j2 j3 j4 => ?_⟩
    by_cases ej : j = i
    · subst ej; simp; omega
    · simp only [if_neg ej]; exact x3 j j1 j2 (out j ej j3) j4
/-- ALLOCS THAT MAY COME IN WHATEVER ORDER: what follows is shown once, for blocks that lie apart. -/
theorem allocs_any {fuel : Nat} (A : Act) (w : World) (Z : Obj) (lo k d n : Nat)
    (hstep : ∀ i, lo ≤ i → i < lo + k → ∃ o, ops[i]? = some o ∧ o.dst = some (i + d) ∧ ∀ (a : Act) (w : World) (K : Act → World → Prop), K (a.put o.dst (.pointer (some ⟨w.heap.size, 0, none⟩))) (w.alloc Z) → if Region.wanted o (yielded ops a.tmps) = true then Oper.wp P o a w K Q else K (a.put o.dst undef) w)
    (hall : ∀ rem ∈ subs (List.range' lo k), rem.Nodup ∧ (∀ i ∈ rem, lo ≤ i ∧ i < lo + k ∧ (marks n lo k rem).setIfInBounds i true = marks n lo k (rem.erase i) ∧ rem.erase i ∈ subs (List.range' lo k)))
    (hready : ∀ rem ∈ subs (List.range' lo k), rem ≠ [] → Region.ready md ops (marks n lo k rem) = rem)
    (hS : ∀ m, S (lays w Z m))
    (fin : ∀ g, Laid lo k [] w.heap.size k g → wpAnyH P md ops Q S fuel (marks n lo k []) (canon A lo k d [] g) (lays w Z k)) :
    ∀ r rem g, r ≤ k → rem ∈ subs (List.range' lo k) → rem.length = r → Laid lo k rem w.heap.size (k - r) g → wpAnyH P md ops Q S (r + fuel) (marks n lo k rem) (canon A lo k d rem g) (lays w Z (k - r))
  | 0, rem, g, _, _, hl, hg => by
    obtain rfl : rem = [] := List.eq_nil_of_length_eq_zero hl
    rw [Nat.zero_add]; exact fin g hg
  | r + 1, rem, g, hk, hs, hl, hg => by
    have hne : rem ≠ [] := fun e => by rw [e] at hl; cases hl
    obtain ⟨hn, hi2⟩ := hall rem hs
    rw [show r + 1 + fuel = (r + fuel) + 1 by omega]
    refine wpAnyH_all (hready rem hs hne) hne (fun i hi => ?_)
    obtain ⟨i1, i2, i3, i4⟩ := hi2 i hi
    obtain ⟨o, ho, hd, hst⟩ := hstep i i1 i2
    refine wpOp_step ho (fun K' hK => hst _ _ K' (hK _ _ ?_))
    have e1 : (lays w Z (k - (r + 1))).alloc Z = lays w Z (k - r) := by rw [show k - r = (k - (r + 1)) + 1 by omega]; rfl
    rw [hd, canon_put A lo k d rem g i _ i1 i2 hi hn, i3, e1, lays_size]
    refine ⟨hS _, allocs_any A w Z lo k d n hstep hall hready hS fin r (rem.erase i) _ (by omega) i4 (by rw [List.length_erase_of_mem hi, hl]; rfl) ?_⟩
    have := laid_put (i := i) hg hn
    rw [show k - (r + 1) + 1 = k - r by omega] at this
    exact this
theorem canon_full (A : Act) (lo k d : Nat) (g : Nat → Nat) : canon A lo k d (List.range' lo k) g = A := by
  unfold canon
  congr 1
  apply Array.ext
  · simp
  · intro j hj1 hj2
    rw [Array.getElem_mapIdx, if_neg]
    rintro ⟨h1, h2, h3⟩
    exact h3 (List.mem_range'.2 ⟨j - d - lo, by omega, by omega⟩)
theorem canon_five (A : Act) (lo d : Nat) (g : Nat → Nat) :
    canon A lo 5 d [] g = ((((A.put (some (lo + d)) (.pointer (some ⟨g lo, 0, none⟩))).put (some (lo + d + 1)) (.pointer (some ⟨g (lo + 1), 0, none⟩))).put (some (lo + d + 2)) (.pointer (some ⟨g (lo + 2), 0, none⟩))).put (some (lo + d + 3)) (.pointer (some ⟨g (lo + 3), 0, none⟩))).put (some (lo + d + 4)) (.pointer (some ⟨g (lo + 4), 0, none⟩)) := by
  unfold canon Act.put
  simp only
  congr 1
  apply Array.ext
  · simp
  · intro j hj1 hj2
    have hj3 : j < A.tmps.size := by simpa using hj1
    rw [Array.getElem_mapIdx, Array.getElem_setIfInBounds (by simpa using hj3), Array.getElem_setIfInBounds (by simpa using hj3), Array.getElem_setIfInBounds (by simpa using hj3), Array.getElem_setIfInBounds (by simpa using hj3), Array.getElem_setIfInBounds (by simpa using hj3)]
    by_cases h4 : lo + d + 4 = j
    · subst h4; rw [if_pos ⟨by omega, by omega, by simp⟩, if_pos rfl, show lo + d + 4 - d = lo + 4 by omega]
    by_cases h3 : lo + d + 3 = j
    · subst h3; rw [if_pos ⟨by omega, by omega, by simp⟩, if_neg h4, if_pos rfl, show lo + d + 3 - d = lo + 3 by omega]
    by_cases h2 : lo + d + 2 = j
    · subst h2; rw [if_pos ⟨by omega, by omega, by simp⟩, if_neg h4, if_neg h3, if_pos rfl, show lo + d + 2 - d = lo + 2 by omega]
    by_cases h1 : lo + d + 1 = j
    · subst h1; rw [if_pos ⟨by omega, by omega, by simp⟩, if_neg h4, if_neg h3, if_neg h2, if_pos rfl, show lo + d + 1 - d = lo + 1 by omega]
    by_cases h0 : lo + d = j
    · subst h0; rw [if_pos ⟨by omega, by omega, by simp⟩, if_neg h4, if_neg h3, if_neg h2, if_neg h1, if_pos rfl, show lo + d - d = lo by omega]
    rw [if_neg (by rintro ⟨x1, x2, _⟩; omega), if_neg h4, if_neg h3, if_neg h2, if_neg h1, if_neg h0]
theorem lays_at (w : World) (Z : Obj) : ∀ n b, w.heap.size ≤ b → b < w.heap.size + n → (lays w Z n).heap[b]? = some Z
  | 0, b, h1, h2 => by omega
  | n + 1, b, h1, h2 => by
    rw [lays]
    show ((lays w Z n).heap.push Z)[b]? = _
    by_cases h : b = w.heap.size + n
    · subst h
      have := lays_size w Z n
      rw [← this]; simp
    · have hlt : b < (lays w Z n).heap.size := by rw [lays_size]; omega
      have ih := lays_at w Z n b h1 (by omega)
      rw [Array.getElem?_push_lt hlt]; rw [Array.getElem?_eq_getElem hlt] at ih; exact ih
theorem lays_below (w : World) (Z : Obj) : ∀ n, Below w.heap.size w (lays w Z n)
  | 0 => Below.refl _ _
  | n + 1 => (lays_below w Z n).alloc (lays_below w Z n).size Z
/-- five of them at once -/
theorem allocs_five {fuel : Nat} (A : Act) (w : World) (Z : Obj) (lo d n : Nat)
    (hstep : ∀ i, lo ≤ i → i < lo + 5 → ∃ o, ops[i]? = some o ∧ o.dst = some (i + d) ∧ ∀ (a : Act) (w : World) (K : Act → World → Prop), K (a.put o.dst (.pointer (some ⟨w.heap.size, 0, none⟩))) (w.alloc Z) → if Region.wanted o (yielded ops a.tmps) = true then Oper.wp P o a w K Q else K (a.put o.dst undef) w)
    (hall : ∀ rem ∈ subs (List.range' lo 5), rem.Nodup ∧ (∀ i ∈ rem, lo ≤ i ∧ i < lo + 5 ∧ (marks n lo 5 rem).setIfInBounds i true = marks n lo 5 (rem.erase i) ∧ rem.erase i ∈ subs (List.range' lo 5)))
    (hready : ∀ rem ∈ subs (List.range' lo 5), rem ≠ [] → Region.ready md ops (marks n lo 5 rem) = rem)
    (hS : ∀ m, S (lays w Z m))
    (fin : ∀ b0 b1 b2 b3 b4 : Nat, (w.heap.size ≤ b0 ∧ b0 < w.heap.size + 5) → (w.heap.size ≤ b1 ∧ b1 < w.heap.size + 5) → (w.heap.size ≤ b2 ∧ b2 < w.heap.size + 5) → (w.heap.size ≤ b3 ∧ b3 < w.heap.size + 5) → (w.heap.size ≤ b4 ∧ b4 < w.heap.size + 5) →
      (b0 ≠ b1 ∧ b0 ≠ b2 ∧ b0 ≠ b3 ∧ b0 ≠ b4 ∧ b1 ≠ b2 ∧ b1 ≠ b3 ∧ b1 ≠ b4 ∧ b2 ≠ b3 ∧ b2 ≠ b4 ∧ b3 ≠ b4) →
      wpAnyH P md ops Q S fuel (marks n lo 5 []) (((((A.put (some (lo + d)) (.pointer (some ⟨b0, 0, none⟩))).put (some (lo + d + 1)) (.pointer (some ⟨b1, 0, none⟩))).put (some (lo + d + 2)) (.pointer (some ⟨b2, 0, none⟩))).put (some (lo + d + 3)) (.pointer (some ⟨b3, 0, none⟩))).put (some (lo + d + 4)) (.pointer (some ⟨b4, 0, none⟩))) (lays w Z 5)) :
    wpAnyH P md ops Q S (5 + fuel) (marks n lo 5 (List.range' lo 5)) A w := by
  have := allocs_any (fuel := fuel) (md := md) (S := S) A w Z lo 5 d n hstep hall hready hS (fun g hg => by
    rw [canon_five]
    have q := fun i j (h1 : lo ≤ i) (h2 : i < lo + 5) (h3 : lo ≤ j) (h4 : j < lo + 5) (h5 : i ≠ j) => (hg i h1 h2 (by simp)).2.2 j h3 h4 (by simp) h5
    have r := fun i (h1 : lo ≤ i) (h2 : i < lo + 5) => And.intro (hg i h1 h2 (by simp)).1 (hg i h1 h2 (by simp)).2.1
    exact fin _ _ _ _ _ (r lo (by omega) (by omega)) (r (lo + 1) (by omega) (by omega)) (r (lo + 2) (by omega) (by omega)) (r (lo + 3) (by omega) (by omega)) (r (lo + 4) (by omega) (by omega))
      ⟨q _ _ (by omega) (by omega) (by omega) (by omega) (by omega), q _ _ (by omega) (by omega) (by omega) (by omega) (by omega), q _ _ (by omega) (by omega) (by omega) (by omega) (by omega), q _ _ (by omega) (by omega) (by omega) (by omega) (by omega), q _ _ (by omega) (by omega) (by omega) (by omega) (by omega), q _ _ (by omega) (by omega) (by omega) (by omega) (by omega), q _ _ (by omega) (by omega) (by omega) (by omega) (by omega), q _ _ (by omega) (by omega) (by omega) (by omega) (by omega), q _ _ (by omega) (by omega) (by omega) (by omega) (by omega), q _ _ (by omega) (by omega) (by omega) (by omega) (by omega)⟩)
    5 (List.range' lo 5) (fun _ => 0) (Nat.le_refl _) (subs_self _) (by simp) (fun i h1 h2 h3 => absurd (List.mem_range'.2 ⟨i - lo, by omega, by omega⟩) h3)
  rw [canon_full] at this
  exact this
end
end Go.Proofs.YtelbhegkaihjhaaDoor
