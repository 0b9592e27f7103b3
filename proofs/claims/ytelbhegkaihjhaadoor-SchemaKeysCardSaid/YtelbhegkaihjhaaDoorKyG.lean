/-
  The Go text of whether two rows of parts are the same, walked. Conditions: as each theorem states.
-/
import Derived.Test.YtelbhegkaihjhaaDoorKyF
import Derived.Laws.StructEq
namespace Go.Proofs.YtelbhegkaihjhaaDoor
open Go.RowKit
open Vi

theorem partHeld : Tryd.prog.stoodInHeld 49 = false := by kernel_rfl
theorem partGuard : Tryd.prog.eqGuardType Tryd.prog.depth 49 = false := by kernel_rfl
def pneq (p q : KPart) : Bool := !(((p.sort : Int) == q.sort) && ((p.n == q.n) && (((p.u : Int) == q.u) && (p.s.toList == q.s.toList))))
theorem neq_part (p q : KPart) (w : World) : (binOp .neq 49 (.agg #[.int .u8 p.sort, .int .i64 p.n, .int .u64 p.u, .string p.s]) (.agg #[.int .u8 q.sort, .int .i64 q.n, .int .u64 q.u, .string q.s])).run Tryd.prog w =
    .ok (.bool (pneq p q)) w := by
  rw [run_neq_struct, run_equalIn_struct w 9999 _ _ _ (by kernel_rfl) partHeld]
  have hf : (Tryd.prog.fieldsOf 49).toList.map (fun f => (f.name, f.type, f.offset)) = [("Sort", 5, 0), ("N", 2, 1), ("U", 22, 2), ("S", 9, 3)] := by kernel_rfl
  generalize (Tryd.prog.fieldsOf 49).toList = fs at hf
  have hl : fs.length = 4 := by have := congrArg List.length hf; simpa using this
  match fs, hl, hf with
  | [f0, f1, f2, f3], _, hf =>
    simp only [List.map_cons, List.map_nil, List.cons.injEq, Prod.mk.injEq, and_true] at hf
    obtain ⟨⟨a0, b0, c0⟩, ⟨a1, b1, c1⟩, ⟨a2, b2, c2⟩, ⟨a3, b3, c3⟩⟩ := hf
    simp [Op.eqFields, a0, a1, a2, a3, b0, b1, b2, b3, c0, c1, c2, c3, part, go_sem, Tryd.underlying5, Tryd.underlying2, Tryd.underlying22, Tryd.underlying9]
    unfold pneq
    by_cases h0 : (p.sort : Int) = q.sort
    · by_cases h1 : p.n = q.n
      · by_cases h2 : (p.u : Int) = q.u
        · by_cases h3 : p.s.toList = q.s.toList <;> simp [h0, h1, h2, h3]
        · simp [h0, h1, h2]
      · simp [h0, h1]
    · simp [h0]
theorem pneq_false {p q : KPart} (h : p = q) : pneq p q = false := by subst h; simp [pneq]
theorem pneq_true {p q : KPart} (h : ¬ p = q) : pneq p q = true := by
  rcases Bool.eq_false_or_eq_true (pneq p q) with e | e
  · exact e
  · exfalso
    apply h
    obtain ⟨a, b, c, d⟩ := p
    obtain ⟨a', b', c', d'⟩ := q
    simp only [pneq, Bool.not_eq_false', Bool.and_eq_true, beq_iff_eq] at e
    obtain ⟨e1, e2, e3, e4⟩ := e
    have e4' : d = d' := by rw [← bs_of d, ← bs_of d', ← Lib.toList_data, ← Lib.toList_data, e4]
    have e1' : a = a' := by omega
    have e3' : c = c' := by omega
    rw [e1', e2, e3', e4']
def SmJ (w : World) (la lb : List KPart) (i : Value) (wr : World) : Prop :=
  ∃ j n : Nat, j ≤ la.length ∧ (∀ k (h : k < la.length) (h' : k < lb.length), k < j → la[k] = lb[k]) ∧ i = .int .i64 j ∧ wr = w.drewN n
end Go.Proofs.YtelbhegkaihjhaaDoor
