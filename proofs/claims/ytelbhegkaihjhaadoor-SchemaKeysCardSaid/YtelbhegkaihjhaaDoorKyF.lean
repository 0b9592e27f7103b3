/-
  The Go text of which row of parts stands ahead, and whether two are the same, walked. Conditions: as each theorem states.
-/
import Derived.Test.YtelbhegkaihjhaaDoorKyE
import Derived.Test.YtelbhegkaihjhaaDoorLaw
namespace Go.Proofs.YtelbhegkaihjhaaDoor
open Go.RowKit
open Vi

def pless : List KPart → List KPart → Bool
  | _, [] => false
  | [], _ :: _ => true
  | x :: a, y :: b => if pcmp x y = 0 then pless a b else decide (pcmp x y < 0)
theorem pless_nil (a : List KPart) : pless a [] = false := by cases a <;> rfl
theorem pless_first (y : KPart) (b : List KPart) : pless [] (y :: b) = true := rfl
theorem pless_on {x y : KPart} (h : pcmp x y = 0) (a b : List KPart) : pless (x :: a) (y :: b) = pless a b := by rw [pless, if_pos h]
theorem pless_off {x y : KPart} (h : ¬ pcmp x y = 0) (a b : List KPart) : pless (x :: a) (y :: b) = decide (pcmp x y < 0) := by rw [pless, if_neg h]
theorem pless_len {a b : List KPart} (h : min a.length b.length = 0) : pless a b = decide (a.length < b.length) := by
  match a, b with
  | a, [] => rw [pless_nil]; simp
  | [], y :: b => rw [pless_first]; simp
  | x :: a, y :: b => simp at h
def LsJ (w : World) (la lb : List KPart) (i : Value) (wr : World) : Prop :=
  ∃ j : Nat, j ≤ la.length ∧ j ≤ lb.length ∧ pless (la.drop j) (lb.drop j) = pless la lb ∧ i = .int .i64 j ∧ Below w.heap.size w wr
/-! light: is a row gone through here? -/
def LiJ (w : World) (l : List KPart) (i : Value) (wr : World) : Prop :=
  ∃ j : Nat, j ≤ l.length ∧ (∀ k (h : k < l.length), k < j → l[k].s.size ≤ 300) ∧ (0 < j → l.length ≤ 30) ∧ i = .int .i64 j ∧ Below w.heap.size w wr
def Light (l : List KPart) : Prop := (0 < l.length → l.length ≤ 30) ∧ ∀ k (h : k < l.length), l[k].s.size ≤ 300
end Go.Proofs.YtelbhegkaihjhaaDoor
