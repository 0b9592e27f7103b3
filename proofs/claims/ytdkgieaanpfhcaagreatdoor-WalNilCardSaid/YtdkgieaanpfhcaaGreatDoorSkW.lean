/-
  Which blocks of memory a call may turn; rows that a call owns. Conditions: as each theorem states.
-/
import Derived.Test.YtdkgieaanpfhcaaGreatDoorRows
import Derived.WalkKit
import Derived.ProofKit
import Derived.OpenShut
import Derived.Lib.Hide
import Derived.Laws.Rows
import Derived.Maps.OwnSet
import Derived.Maps.AppendAt
import Derived.Deep.AppendLies
namespace Go.Proofs.YtdkgieaanpfhcaaGreatDoor.Sk
open Go.RowKit

theorem cell_in {w : World} {g : Nat} {c : Array Value} {t : TypeId} (h : w.heap[g]? = some (.cells c t (0, 0))) (j : Nat) (v : Value) (hj : c[j]? = some v) :
    w.cell? ⟨g, j, none⟩ = some v := by rw [cell_of_row w g j c t (0, 0) h]; exact hj
theorem free_in {w : World} {g : Nat} {c : Array Value} {t : TypeId} (h : w.heap[g]? = some (.cells c t (0, 0))) (j : Nat) : w.frozen? ⟨g, j, none⟩ = false := by
  simp [World.frozen?, h]
theorem heap_set {w : World} {g : Nat} {c : Array Value} {t : TypeId} {fr : Nat × Nat} (h : w.heap[g]? = some (.cells c t fr)) (j : Nat) (v : Value) :
    (w.setCell ⟨g, j, none⟩ v).heap[g]? = some (.cells (c.setIfInBounds j v) t fr) := by
  simp only [World.setCell, Array.getElem?_modify, if_true, h]
  rfl
theorem grown_set (w : World) (g j : Nat) (v : Value) : w.grownBy (w.setCell ⟨g, j, none⟩ v) (some g) :=
  ⟨rfl, rfl, rfl, by simp [World.setCell], fun k _ hk => Below.heap_setCell w ⟨g, j, none⟩ v k (fun e => hk (by rw [e]))⟩

/-! ### only some blocks turn -/
structure Only (fp : List Nat) (w w' : World) : Prop where
  os : w'.os = w.os
  tape : w'.tape = w.tape
  output : w'.output = w.output
  size : w.heap.size ≤ w'.heap.size
  block : ∀ k, k < w.heap.size → k ∉ fp → w'.heap[k]? = w.heap[k]?
/-- from footprint fp to fp': only fp's blocks turn, and what is new in fp' is new in memory -/
structure Moves (w : World) (fp : List Nat) (w' : World) (fp' : List Nat) : Prop where
  only : Only fp w w'
  fresh : ∀ k ∈ fp', k ∈ fp ∨ w.heap.size ≤ k
theorem Only.refl (fp : List Nat) (w : World) : Only fp w w := ⟨rfl, rfl, rfl, Nat.le_refl _, fun _ _ _ => rfl⟩
theorem Moves.refl (fp : List Nat) (w : World) : Moves w fp w fp := ⟨Only.refl _ _, fun _ h => Or.inl h⟩
theorem Moves.trans {w w1 w2 : World} {fp fp1 fp2 : List Nat} (h : Moves w fp w1 fp1) (k : Moves w1 fp1 w2 fp2) : Moves w fp w2 fp2 := by
  have hs1 := h.only.size
  have hs2 := k.only.size
  refine ⟨⟨k.only.os.trans h.only.os, k.only.tape.trans h.only.tape, k.only.output.trans h.only.output, Nat.le_trans hs1 hs2, fun i hi hn => ?_⟩, fun i hi => ?_⟩
  · refine (k.only.block i (Nat.lt_of_lt_of_le hi hs1) (fun hm => ?_)).trans (h.only.block i hi hn)
    rcases h.fresh i hm with h1 | h1
    · exact hn h1
    · omega
  · rcases k.fresh i hi with h1 | h1
    · exact h.fresh i h1
    · exact Or.inr (by omega)
theorem Only.of_grown {fp : List Nat} {w w' : World} {row : Option Nat} (h : w.grownBy w' row) (hr : ∀ k, row = some k → k ∈ fp) : Only fp w w' :=
  ⟨h.os, h.tape, h.output, h.size, fun k hk hn => h.block k hk (fun e => hn (hr k e.symm))⟩
theorem Only.of_below {fp : List Nat} {w w' : World} (h : Below w.heap.size w w') : Only fp w w' := ⟨h.os, h.tape, h.output, h.size, fun k hk _ => h.block k hk⟩
theorem Only.trans {fp : List Nat} {w w1 w2 : World} (h : Only fp w w1) (k : Only fp w1 w2) : Only fp w w2 :=
  ⟨k.os.trans h.os, k.tape.trans h.tape, k.output.trans h.output, Nat.le_trans h.size k.size, fun i hi hn => (k.block i (Nat.lt_of_lt_of_le hi h.size) hn).trans (h.block i hi hn)⟩
theorem Only.widen {fp fp' : List Nat} {w w' : World} (h : Only fp w w') (hs : ∀ k ∈ fp, k ∈ fp') : Only fp' w w' := ⟨h.os, h.tape, h.output, h.size, fun k hk hn => h.block k hk (fun hm => hn (hs k hm))⟩
theorem Moves.of_below {w w' : World} {fp : List Nat} (h : Below w.heap.size w w') : Moves w fp w' fp := ⟨Only.of_below h, fun _ h => Or.inl h⟩
theorem Moves.below {w w' : World} {fp fp' : List Nat} (h : Moves w fp w' fp') {base : Nat} (hl : ∀ k ∈ fp, base ≤ k) (hb : base ≤ w.heap.size) : Below base w w' :=
  ⟨h.only.os, h.only.tape, h.only.output, h.only.size, fun k hk => h.only.block k (by omega) (fun hm => by have := hl k hm; omega)⟩
theorem Moves.low {w w' : World} {fp fp' : List Nat} (h : Moves w fp w' fp') {base : Nat} (hl : ∀ k ∈ fp, base ≤ k) (hb : base ≤ w.heap.size) : ∀ k ∈ fp', base ≤ k := by
  intro k hk
  rcases h.fresh k hk with h1 | h1
  · exact hl k h1
  · omega

theorem ownsRow_lt {w : World} {base e size n g : Nat} {v : Value} {xs : List Value} (h : w.ownsRow base e size v n xs) (hg : v.ownBlock = some g) : g < w.heap.size := by
  rcases h.2 with ⟨rfl, _⟩ | ⟨g', cap, cur, rfl, _, hh, _⟩
  · cases hg
  · have : g' = g := by simpa [Value.ownBlock] using hg
    subst this
    exact (Array.getElem?_eq_some_iff.1 hh).1
theorem ownsRow_kept {w w' : World} {base e size n : Nat} {v : Value} {xs : List Value} (h : w.ownsRow base e size v n xs) (hk : ∀ g, v.ownBlock = some g → w'.heap[g]? = w.heap[g]?) : w'.ownsRow base e size v n xs := by
  refine ⟨h.1, ?_⟩
  rcases h.2 with h0 | ⟨g, cap, cur, rfl, hb, hh, r⟩
  · exact .inl h0
  · exact .inr ⟨g, cap, cur, rfl, hb, (hk g rfl).trans hh, r⟩
end Go.Proofs.YtdkgieaanpfhcaaGreatDoor.Sk
