/-
  Rows of entries in memory; the document's own answers for them, walked. Conditions: as each theorem states.
-/
import Derived.Test.YtadejeoiffaimaaDoorMeP
import Derived.Test.YtadejeoiffaimaaDoorSkI
import Derived.Deep.AppendLies
namespace Go.Proofs.YtadejeoiffaimaaDoor.Me
open Go.RowKit
open Vi

def eCells (e : En) : List Value := [.string e.key, .int .u64 e.seq, .int .i64 e.kind, .string e.val]
def eRow (q : List En) : List Value := q.flatMap eCells
theorem eRow_snoc (P : List En) (x : En) : eRow P ++ eCells x = eRow (P ++ [x]) := by simp [eRow]
theorem eRow_at {q : List En} {j : Nat} (h : j < q.length) : (eRow q)[j * 4]? = some (.string q[j].key) ∧ (eRow q)[j * 4 + 1]? = some (.int .u64 q[j].seq) ∧ (eRow q)[j * 4 + 2]? = some (.int .i64 q[j].kind) ∧ (eRow q)[j * 4 + 3]? = some (.string q[j].val) := by
  induction q generalizing j with
  | nil => simp at h
  | cons x q ih =>
    match j with
    | 0 => exact ⟨rfl, rfl, rfl, rfl⟩
    | j + 1 =>
      have := ih (j := j) (by simpa using h)
      have e1 : (j + 1) * 4 = j * 4 + 4 := by omega
      have e2 : ∀ r, (eRow (x :: q))[(j + 1) * 4 + r]? = (eRow q)[j * 4 + r]? := fun r => by
        have e3 : eRow (x :: q) = eCells x ++ eRow q := by simp [eRow]
        rw [e3, List.getElem?_append_right (by simp [eCells]; omega)]
        congr 1
        simp [eCells]; omega
      obtain ⟨p0, p1, p2, p3⟩ := this
      exact ⟨(e2 0).trans p0, (e2 1).trans p1, (e2 2).trans p2, (e2 3).trans p3⟩
theorem infoE : (Tryd.prog.info? 30).map (fun i => (i.zero, i.size, i.bytes)) = some (some (.agg #[.string ⟨#[]⟩, .int .u64 0, .int .i64 0, .string ⟨#[]⟩]), 4, 48) := by kernel_rfl
theorem enews (W : World) (k : Nat) (hk : k = W.heap.size) (e : En) (t : TypeId) : ∀ j z, (eCells e)[j]? = some z → (W.alloc (.cells #[.string e.key, .int .u64 e.seq, .int .i64 e.kind, .string e.val] t)).cell? ((⟨k, 0, none⟩ : Addr).add j) = some z := by
  subst hk
  exact World.news_of_block (heap_alloc_new W _)
theorem e_one (e : En) : ∀ x ∈ eCells e, x.oneCell' = true := by
  intro x hx
  simp [eCells] at hx
  rcases hx with rfl | rfl | rfl | rfl <;> rfl
/-- a row of entries in memory -/
def EAt (w : World) (v : Value) (q : List En) : Prop :=
  ∃ A c, v = .slice A q.length c ∧ q.length ≤ c ∧ (0 < q.length → ∃ g, A = some ⟨g, 0, none⟩ ∧ g < w.heap.size ∧ ∀ j x, (eRow q)[j]? = some x → w.cell? ⟨g, j, none⟩ = some x)
theorem EAt.below {w w' : World} {v : Value} {q : List En} (h : EAt w v q) (hb : Below w.heap.size w w') : EAt w' v q := by
  obtain ⟨A, c, hv, hcap, hc⟩ := h
  refine ⟨A, c, hv, hcap, fun h0 => ?_⟩
  obtain ⟨g, hA, hg, hx⟩ := hc h0
  exact ⟨g, hA, Nat.lt_of_lt_of_le hg hb.size, fun j x hj => (hb.cell (p := ⟨g, j, none⟩) hg).trans (hx j x hj)⟩
theorem e_cells {w : World} {q : List En} {g : Nat} {j : Nat} (hx : ∀ j x, (eRow q)[j]? = some x → w.cell? ⟨g, j, none⟩ = some x) (h : j < q.length) :
    w.cell? ⟨g, j * 4, none⟩ = some (.string q[j].key) ∧ w.cell? ⟨g, j * 4 + 1, none⟩ = some (.int .u64 q[j].seq) ∧ w.cell? ⟨g, j * 4 + 2, none⟩ = some (.int .i64 q[j].kind) ∧ w.cell? ⟨g, j * 4 + 3, none⟩ = some (.string q[j].val) := by
  obtain ⟨p0, p1, p2, p3⟩ := eRow_at h
  exact ⟨hx _ _ p0, hx _ _ p1, hx _ _ p2, hx _ _ p3⟩
theorem eat_of_owns {w : World} {B : Nat} {v : Value} {q : List En} (h : w.ownsRow B 30 4 v q.length (eRow q)) : EAt w v q := by
  have hc := fun g hg => h.cells (g := g) hg
  rcases h.2 with ⟨rfl, h0⟩ | ⟨g, cap, cur, rfl, hb, hg, hcap⟩
  · exact ⟨none, 0, by rw [h0], by omega, fun h1 => by omega⟩
  · refine ⟨some ⟨g, 0, none⟩, cap, rfl, ?_, fun _ => ⟨g, rfl, (Array.getElem?_eq_some_iff.1 hg).1, fun j x hj => ?_⟩⟩
    · exact hcap.1
    · have := hc g rfl j x hj
      rwa [add_flat] at this
end Go.Proofs.YtadejeoiffaimaaDoor.Me
