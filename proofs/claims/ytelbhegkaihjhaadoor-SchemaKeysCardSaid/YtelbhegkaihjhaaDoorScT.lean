/-
  What the law of a market's keys needs: five boxes of things beside two others. Conditions: as each theorem states.
-/
import Derived.Test.YtelbhegkaihjhaaDoorScK
import Derived.Test.YtelbhegkaihjhaaDoorScL
import Derived.Test.YtelbhegkaihjhaaDoorScAl
namespace Go.Proofs.YtelbhegkaihjhaaDoor
open Go.RowKit
open Vi

theorem thHeld : Tryd.prog.stoodInHeld 26 = false := by kernel_rfl
theorem eq_thing (y1 y8 : ByteArray) (y2 y3 y6 y7 : Nat) (y4 y5 : Int) (w : World) :
    (binOp .eql 26 (.agg #[.string y1, .int .u64 y2, .int .u64 y3, .int .i64 y4, .int .i64 y5, .int .u64 y6, .int .u64 y7, .string y8]) (.agg #[.string y1, .int .u64 y2, .int .u64 y3, .int .i64 y4, .int .i64 y5, .int .u64 y6, .int .u64 y7, .string y8])).run Tryd.prog w = .ok (.bool true) w := by
  rw [run_eql_struct, run_equalIn_struct w 9999 _ _ _ (by kernel_rfl) thHeld]
  have hf : (Tryd.prog.fieldsOf 26).toList.map (fun f => (f.name, f.type, f.offset)) = [("Sort", 9, 0), ("Account", 22, 1), ("ID", 22, 2), ("Kind", 3, 3), ("Price", 2, 4), ("Rank", 22, 5), ("At", 22, 6), ("Name", 9, 7)] := by kernel_rfl
  generalize (Tryd.prog.fieldsOf 26).toList = fs at hf
  have hl : fs.length = 8 := by have := congrArg List.length hf; simpa using this
  match fs, hl, hf with
  | [f0, f1, f2, f3, f4, f5, f6, f7], _, hf =>
    simp only [List.map_cons, List.map_nil, List.cons.injEq, Prod.mk.injEq, and_true] at hf
    obtain ⟨⟨a0, b0, c0⟩, ⟨a1, b1, c1⟩, ⟨a2, b2, c2⟩, ⟨a3, b3, c3⟩, ⟨a4, b4, c4⟩, ⟨a5, b5, c5⟩, ⟨a6, b6, c6⟩, ⟨a7, b7, c7⟩⟩ := hf
    simp [Op.eqFields, a0, a1, a2, a3, a4, a5, a6, a7, b0, b1, b2, b3, b4, b5, b6, b7, c0, c1, c2, c3, c4, c5, c6, c7, part, go_sem, Tryd.underlying9, Tryd.underlying22, Tryd.underlying2, Tryd.underlying3]
/-- the thing's box, and its copy -/
structure QW (w : World) (x : Array Value) (k6 : Nat) (W : World) : Prop where
  below : Below w.heap.size w W
  bt : W.heap[w.heap.size]? = some (.cells x 24 (0, 0))
  b6 : W.heap[k6]? = some (.cells x 26 (0, 0))
/-- which blocks lie apart -/
structure Ap (w : World) (k6 b0 b1 b2 b3 b4 : Nat) : Prop where
  low : w.heap.size < b0 ∧ w.heap.size < b1 ∧ w.heap.size < b2 ∧ w.heap.size < b3 ∧ w.heap.size < b4
  k : k6 < b0 ∧ k6 < b1 ∧ k6 < b2 ∧ k6 < b3 ∧ k6 < b4
  ap : b0 ≠ b1 ∧ b0 ≠ b2 ∧ b0 ≠ b3 ∧ b0 ≠ b4 ∧ b1 ≠ b2 ∧ b1 ≠ b3 ∧ b1 ≠ b4 ∧ b2 ≠ b3 ∧ b2 ≠ b4 ∧ b3 ≠ b4
structure KB (w : World) (x : Array Value) (k6 b0 b1 b2 b3 b4 : Nat) (A0 A1 A2 A3 A4 : Array Value) (W : World) : Prop where
  q : QW w x k6 W
  ap : Ap w k6 b0 b1 b2 b3 b4
  f0 : W.heap[b0]? = some (.cells A0 26 (0, 0))
  f1 : W.heap[b1]? = some (.cells A1 26 (0, 0))
  f2 : W.heap[b2]? = some (.cells A2 26 (0, 0))
  f3 : W.heap[b3]? = some (.cells A3 26 (0, 0))
  f4 : W.heap[b4]? = some (.cells A4 26 (0, 0))
structure KX (w : World) (x : Array Value) (k6 b0 b1 b2 b3 b4 : Nat) (A0 A1 A2 A3 A4 : Array Value) (k16 k18 : Nat) (y : Array Value) (W : World) : Prop where
  kb : KB w x k6 b0 b1 b2 b3 b4 A0 A1 A2 A3 A4 W
  b16 : W.heap[k16]? = some (.cells y 24 (0, 0))
  b18 : W.heap[k18]? = some (.cells y 26 (0, 0))
section
variable {w W W' : World} {x : Array Value} {k6 b0 b1 b2 b3 b4 : Nat} {A0 A1 A2 A3 A4 : Array Value} {k16 k18 : Nat} {y : Array Value}
theorem hp_on {o : Obj} {k : Nat} (h : W.heap[k]? = some o) (hb : Below W.heap.size W W') : W'.heap[k]? = some o := (hb.block _ (Array.getElem?_eq_some_iff.1 h).1).trans h
theorem qw_on (h : QW w x k6 W) (hb : Below W.heap.size W W') : QW w x k6 W' := ⟨h.below.trans (hb.mono h.below.size), hp_on h.bt hb, hp_on h.b6 hb⟩
theorem qw_alloc (h : QW w x k6 W) (o : Obj) : QW w x k6 (W.alloc o) := qw_on h ((Below.refl _ _).alloc (Nat.le_refl _) o)
theorem qw_drew (h : QW w x k6 W) : QW w x k6 W.drew := ⟨h.below.drew, h.bt, h.b6⟩
theorem qw_lays (h : QW w x k6 W) (Z : Obj) (m : Nat) : QW w x k6 (lays W Z m) := qw_on h (lays_below W Z m)
theorem kb_on (h : KB w x k6 b0 b1 b2 b3 b4 A0 A1 A2 A3 A4 W) (hb : Below W.heap.size W W') : KB w x k6 b0 b1 b2 b3 b4 A0 A1 A2 A3 A4 W' :=
  ⟨qw_on h.q hb, h.ap, hp_on h.f0 hb, hp_on h.f1 hb, hp_on h.f2 hb, hp_on h.f3 hb, hp_on h.f4 hb⟩
theorem kb_alloc (h : KB w x k6 b0 b1 b2 b3 b4 A0 A1 A2 A3 A4 W) (o : Obj) : KB w x k6 b0 b1 b2 b3 b4 A0 A1 A2 A3 A4 (W.alloc o) := kb_on h ((Below.refl _ _).alloc (Nat.le_refl _) o)
theorem kb_start (h : QW w x k6 W) (hk : w.heap.size < W.heap.size ∧ k6 < W.heap.size) (Z : Array Value) {c0 c1 c2 c3 c4 : Nat} (h0 : W.heap.size ≤ c0 ∧ c0 < W.heap.size + 5) (h1 : W.heap.size ≤ c1 ∧ c1 < W.heap.size + 5) (h2 : W.heap.size ≤ c2 ∧ c2 < W.heap.size + 5) (h3 : W.heap.size ≤ c3 ∧ c3 < W.heap.size + 5) (h4 : W.heap.size ≤ c4 ∧ c4 < W.heap.size + 5)
    (hd : c0 ≠ c1 ∧ c0 ≠ c2 ∧ c0 ≠ c3 ∧ c0 ≠ c4 ∧ c1 ≠ c2 ∧ c1 ≠ c3 ∧ c1 ≠ c4 ∧ c2 ≠ c3 ∧ c2 ≠ c4 ∧ c3 ≠ c4) : KB w x k6 c0 c1 c2 c3 c4 Z Z Z Z Z (lays W (.cells Z 26 (0, 0)) 5) :=
  ⟨qw_lays h _ 5, ⟨by omega, by omega, hd⟩, lays_at W _ 5 c0 h0.1 h0.2, lays_at W _ 5 c1 h1.1 h1.2, lays_at W _ 5 c2 h2.1 h2.2, lays_at W _ 5 c3 h3.1 h3.2, lays_at W _ 5 c4 h4.1 h4.2⟩
theorem set_far {g k j : Nat} {v : Value} {o : Obj} (h : W.heap[k]? = some o) (hne : k ≠ g) : (W.setCell ⟨g, j, none⟩ v).heap[k]? = some o :=
  ((grown_set W g j v).block _ (Array.getElem?_eq_some_iff.1 h).1 (fun e => hne (by injection e))).trans h
theorem kb_set0 (h : KB w x k6 b0 b1 b2 b3 b4 A0 A1 A2 A3 A4 W) (j : Nat) (v : Value) : KB w x k6 b0 b1 b2 b3 b4 (A0.setIfInBounds j v) A1 A2 A3 A4 (W.setCell ⟨b0, j, none⟩ v) :=
  ⟨⟨h.q.below.setCell (Nat.le_of_lt h.ap.low.1) v, set_far h.q.bt (Nat.ne_of_lt h.ap.low.1), set_far h.q.b6 (Nat.ne_of_lt h.ap.k.1)⟩, h.ap, heap_set h.f0 j v, set_far h.f1 (Ne.symm h.ap.ap.1), set_far h.f2 (Ne.symm h.ap.ap.2.1), set_far h.f3 (Ne.symm h.ap.ap.2.2.1), set_far h.f4 (Ne.symm h.ap.ap.2.2.2.1)⟩
theorem kb_set1 (h : KB w x k6 b0 b1 b2 b3 b4 A0 A1 A2 A3 A4 W) (j : Nat) (v : Value) : KB w x k6 b0 b1 b2 b3 b4 A0 (A1.setIfInBounds j v) A2 A3 A4 (W.setCell ⟨b1, j, none⟩ v) :=
  ⟨⟨h.q.below.setCell (Nat.le_of_lt h.ap.low.2.1) v, set_far h.q.bt (Nat.ne_of_lt h.ap.low.2.1), set_far h.q.b6 (Nat.ne_of_lt h.ap.k.2.1)⟩, h.ap, set_far h.f0 h.ap.ap.1, heap_set h.f1 j v, set_far h.f2 (Ne.symm h.ap.ap.2.2.2.2.1), set_far h.f3 (Ne.symm h.ap.ap.2.2.2.2.2.1), set_far h.f4 (Ne.symm h.ap.ap.2.2.2.2.2.2.1)⟩
theorem kb_set2 (h : KB w x k6 b0 b1 b2 b3 b4 A0 A1 A2 A3 A4 W) (j : Nat) (v : Value) : KB w x k6 b0 b1 b2 b3 b4 A0 A1 (A2.setIfInBounds j v) A3 A4 (W.setCell ⟨b2, j, none⟩ v) :=
  ⟨⟨h.q.below.setCell (Nat.le_of_lt h.ap.low.2.2.1) v, set_far h.q.bt (Nat.ne_of_lt h.ap.low.2.2.1), set_far h.q.b6 (Nat.ne_of_lt h.ap.k.2.2.1)⟩, h.ap, set_far h.f0 h.ap.ap.2.1, set_far h.f1 h.ap.ap.2.2.2.2.1, heap_set h.f2 j v, set_far h.f3 (Ne.symm h.ap.ap.2.2.2.2.2.2.2.1), set_far h.f4 (Ne.symm h.ap.ap.2.2.2.2.2.2.2.2.1)⟩
theorem kb_set3 (h : KB w x k6 b0 b1 b2 b3 b4 A0 A1 A2 A3 A4 W) (j : Nat) (v : Value) : KB w x k6 b0 b1 b2 b3 b4 A0 A1 A2 (A3.setIfInBounds j v) A4 (W.setCell ⟨b3, j, none⟩ v) :=
  ⟨⟨h.q.below.setCell (Nat.le_of_lt h.ap.low.2.2.2.1) v, set_far h.q.bt (Nat.ne_of_lt h.ap.low.2.2.2.1), set_far h.q.b6 (Nat.ne_of_lt h.ap.k.2.2.2.1)⟩, h.ap, set_far h.f0 h.ap.ap.2.2.1, set_far h.f1 h.ap.ap.2.2.2.2.2.1, set_far h.f2 h.ap.ap.2.2.2.2.2.2.2.1, heap_set h.f3 j v, set_far h.f4 (Ne.symm h.ap.ap.2.2.2.2.2.2.2.2.2)⟩
theorem kb_set4 (h : KB w x k6 b0 b1 b2 b3 b4 A0 A1 A2 A3 A4 W) (j : Nat) (v : Value) : KB w x k6 b0 b1 b2 b3 b4 A0 A1 A2 A3 (A4.setIfInBounds j v) (W.setCell ⟨b4, j, none⟩ v) :=
  ⟨⟨h.q.below.setCell (Nat.le_of_lt h.ap.low.2.2.2.2) v, set_far h.q.bt (Nat.ne_of_lt h.ap.low.2.2.2.2), set_far h.q.b6 (Nat.ne_of_lt h.ap.k.2.2.2.2)⟩, h.ap, set_far h.f0 h.ap.ap.2.2.2.1, set_far h.f1 h.ap.ap.2.2.2.2.2.2.1, set_far h.f2 h.ap.ap.2.2.2.2.2.2.2.2.1, set_far h.f3 h.ap.ap.2.2.2.2.2.2.2.2.2, heap_set h.f4 j v⟩
theorem kx_on (h : KX w x k6 b0 b1 b2 b3 b4 A0 A1 A2 A3 A4 k16 k18 y W) (hb : Below W.heap.size W W') : KX w x k6 b0 b1 b2 b3 b4 A0 A1 A2 A3 A4 k16 k18 y W' := ⟨kb_on h.kb hb, hp_on h.b16 hb, hp_on h.b18 hb⟩
theorem kx_drew (h : KX w x k6 b0 b1 b2 b3 b4 A0 A1 A2 A3 A4 k16 k18 y W) : KX w x k6 b0 b1 b2 b3 b4 A0 A1 A2 A3 A4 k16 k18 y W.drew :=
  ⟨⟨qw_drew h.kb.q, h.kb.ap, h.kb.f0, h.kb.f1, h.kb.f2, h.kb.f3, h.kb.f4⟩, h.b16, h.b18⟩
end
end Go.Proofs.YtelbhegkaihjhaaDoor
