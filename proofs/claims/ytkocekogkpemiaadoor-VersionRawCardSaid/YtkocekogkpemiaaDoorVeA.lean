/-
  Rows of files without levels, and a set of numbers, as they lie in memory. Conditions: as each theorem states.
-/
import Derived.Test.YtkocekogkpemiaaDoorVeMath
import Derived.Test.YtkocekogkpemiaaDoorEdD
import Derived.Maps.OwnSet
import Derived.Maps.OwnOps
import Derived.Maps.Keyed
namespace Go.Proofs.YtkocekogkpemiaaDoor.Ve
open Go.RowKit Go.Maps
open Go.Proofs.YtkocekogkpemiaaDoor
open Vi Ba Ed

def FCells (W : World) (q : Addr) (a : Fil) : Prop := W.cell? q = some (.int .u64 a.number) ∧ W.cell? ⟨q.block, q.off + 1, none⟩ = some (.int .u64 a.size) ∧ W.cell? ⟨q.block, q.off + 2, none⟩ = some (.int .u64 a.count) ∧ W.cell? ⟨q.block, q.off + 3, none⟩ = some (.string a.least) ∧ W.cell? ⟨q.block, q.off + 4, none⟩ = some (.string a.most)
theorem FCells.on {W W' : World} {q : Addr} {a : Fil} (h : FCells W q a) (hq : q.block < W.heap.size) (hb : Below W.heap.size W W') : FCells W' q a := by
  obtain ⟨c0, c1, c2, c3, c4⟩ := h
  have k : ∀ j : Nat, W'.cell? ⟨q.block, q.off + j, none⟩ = W.cell? ⟨q.block, q.off + j, none⟩ := fun j => hb.cell (p := ⟨q.block, q.off + j, none⟩) hq
  exact ⟨(hb.cell (p := q) hq).trans c0, (k 1).trans c1, (k 2).trans c2, (k 3).trans c3, (k 4).trans c4⟩
def FRow (W : World) (ao : Option Addr) (l : List Fil) : Prop := 0 < l.length → ∃ a, ao = some a ∧ a.block < W.heap.size ∧ ∀ i (hi : i < l.length), FCells W (a.add (i * 5)) l[i]
theorem FRow.on {W W' : World} {ao : Option Addr} {l : List Fil} (h : FRow W ao l) (hb : Below W.heap.size W W') : FRow W' ao l := fun h0 => by
  obtain ⟨a, rfl, h1, h2⟩ := h h0
  have := hb.size
  exact ⟨a, rfl, by omega, fun i hi => (h2 i hi).on (by rw [block_add]; exact h1) hb⟩
theorem frow_nil (w : World) (A : Option Addr) : FRow w A [] := fun h => by simp at h
/-- a file as a value -/
def fval (a : Fil) : Value := .agg #[.int .u64 a.number, .int .u64 a.size, .int .u64 a.count, .string a.least, .string a.most]
/-- a version as a value -/
def vval (L : Nat → List Fil) (A : Nat → Option Addr) (C : Nat → Nat) : Value := .agg #[.slice (A 0) (L 0).length (C 0), .slice (A 1) (L 1).length (C 1), .slice (A 2) (L 2).length (C 2), .slice (A 3) (L 3).length (C 3)]
structure VLies (W : World) (L : Nat → List Fil) (A : Nat → Option Addr) : Prop where
  row : ∀ i, i < 4 → FRow W (A i) (L i)
  ok : ∀ i, i < 4 → ∀ a ∈ L i, a.ok
  len : ∀ i, i < 4 → (L i).length ≤ 100000
theorem VLies.on {W W' : World} {L : Nat → List Fil} {A : Nat → Option Addr} (h : VLies W L A) (hb : Below W.heap.size W W') : VLies W' L A := ⟨fun i hi => (h.row i hi).on hb, h.ok, h.len⟩
/-! a set of numbers -/
theorem keyU : Maps.Keyed Tryd.prog 32 := Maps.int_keyed Tryd.underlying32
theorem keyOfU {n : Nat} (h : n < 18446744073709551616) : keyOf Tryd.prog 32 (.int .u64 (n : Int)) = some (.int .u64 (n : Int)) := Maps.keyOf_int_mk Tryd.underlying32 (by simp [Lit.wf, IntKind.min, IntKind.max, IntKind.signed, IntKind.bits]; omega)
/-- a set: what came last stands ahead -/
def SMap (w : World) (m : Nat) (N : List Nat) : Prop :=
  ∃ D : DataW Unit, w.ownsMap Tryd.prog 32 unitElem m N.length D ∧ Maps.size D = card N ∧ ∀ n : Nat, Maps.has D (.int .u64 (n : Int)) = decide (n ∈ N)
theorem smap_kept {w w' : World} {m : Nat} {N : List Nat} (h : SMap w m N) (hk : w'.heap[m]? = w.heap[m]?) : SMap w' m N := by
  obtain ⟨D, ⟨es, clock, hb, F, hs, hD⟩, h2, h3⟩ := h
  exact ⟨D, ⟨es, clock, hk.trans hb, F, hs, hD⟩, h2, h3⟩
theorem smap_lt {w : World} {m : Nat} {N : List Nat} (h : SMap w m N) : m < w.heap.size := by
  obtain ⟨D, ho, _⟩ := h
  exact ho.lt
theorem smap_new (w : World) : SMap (w.alloc (.map #[] 0)) w.heap.size [] :=
  ⟨.map [], World.ownsMap_made w _ _ _, rfl, fun n => by simp [Maps.has_eq]⟩
theorem smap_len {w : World} {m : Nat} {N : List Nat} (h : SMap w m N) (ty : TypeId) : (Builtin.len_ #[52] ty #[.map (some m)]).run Tryd.prog w = .ok (.int .i64 (card N : Nat)) w := by
  obtain ⟨D, ho, h2, _⟩ := h
  rw [ho.len Tryd.underlying52 ty, h2]
set_option maxRecDepth 100000 in
theorem smap_put {w : World} {m : Nat} {N : List Nat} (h : SMap w m N) (hN : N.length < maxLen) {n : Nat} (hn : n < 18446744073709551616) :
    ∃ w', (Instr.mapUpdate 52 (.map (some m)) (.int .u64 (n : Int)) (.agg #[])).run Tryd.prog w = .ok () w' ∧ SMap w' m (n :: N) ∧ w.grownBy w' (some m) := by
  obtain ⟨D, ho, h2, h3⟩ := h
  obtain ⟨w', hrun, ho2, hg⟩ := ho.update keyU Tryd.underlying52 hN (keyOfU hn) (val := .agg #[]) (d := .agg []) (ps := []) unitElem_mk
  have hT := ho.tidy keyU
  refine ⟨w', hrun, ⟨_, ho2, ?_, fun k => ?_⟩, hg⟩
  · rw [Maps.size_put hT, h3 n, h2]
    show _ = if n ∈ N then card N else card N + 1
    by_cases e : n ∈ N
    · simp [e]
    · simp [e]
  · by_cases hk : k = n
    · subst hk
      rw [Maps.has_put_same hT.isMap (show WideAt.IsKeyLit (.int _ _) from trivial) _]
      exact (decide_eq_true (List.mem_cons_self ..)).symm
    · have hne : Lit.int .u64 (k : Int) ≠ Lit.int .u64 (n : Int) := fun e => hk (by injection e with _ e; omega)
      rw [Maps.has_put_other hne _, h3 k]
      exact decide_eq_decide.2 ⟨fun h => List.mem_cons_of_mem _ h, fun h => (List.mem_cons.1 h).resolve_left hk⟩
end Go.Proofs.YtkocekogkpemiaaDoor.Ve
