/-
  The Go text of the laws that lays records one behind the other, walked. Conditions: as each theorem states.
-/
import Derived.Test.YtdkgieaanpfhcaaGreatDoorFrJ
import Derived.Test.YtdkgieaanpfhcaaGreatDoorFrC
import Derived.Deep.AppendLies
namespace Go.Proofs.YtdkgieaanpfhcaaGreatDoor
open Go.RowKit
open Vi

/-- A row of texts in memory. -/
def SRow (w : World) (A : Option Addr) (l : List (List UInt8)) : Prop :=
  0 < l.length → ∃ a, A = some a ∧ a.block < w.heap.size ∧ ∀ i (h : i < l.length), w.cell? (a.add i) = some (.string (bs l[i]))
theorem block_add (a : Addr) (n : Nat) : (a.add n).block = a.block := by unfold Addr.add; split <;> rfl
theorem SRow.below {B : Nat} {w w' : World} {A : Option Addr} {l : List (List UInt8)} (h : SRow w A l) (hb : Below B w w') (hB : w.heap.size ≤ B) : SRow w' A l := fun h0 => by
  obtain ⟨a, e, hlt, hc⟩ := h h0
  exact ⟨a, e, Nat.lt_of_lt_of_le hlt hb.size, fun i hi => (hb.cell (p := a.add i) (by rw [block_add]; omega)).trans (hc i hi)⟩
theorem logOf_snoc : ∀ (l : List (List UInt8)) (P s : List UInt8), logOf P (l ++ [s]) = logOf P l ++ lay (logOf P l).length s
  | [], P, s => rfl
  | x :: l, P, s => by rw [List.cons_append, logOf, logOf, logOf_snoc l]
theorem endsOf_snoc : ∀ (l : List (List UInt8)) (P s : List UInt8), endsOf P (l ++ [s]) = endsOf P l ++ [(logOf P l).length + (lay (logOf P l).length s).length]
  | [], P, s => by simp [endsOf, logOf]
  | x :: l, P, s => by rw [List.cons_append, endsOf, endsOf, logOf, endsOf_snoc l]; rfl
def eCells (es : List Nat) : List Value := es.map fun (e : Nat) => Value.int .i64 (e : Int)
theorem eCells_snoc (es : List Nat) (e : Nat) : eCells (es ++ [e]) = eCells es ++ [.int .i64 (e : Int)] := by simp [eCells]
theorem logOf_len : ∀ (l : List (List UInt8)) (P : List UInt8), (∀ s ∈ l, s.length ≤ 2000) → (logOf P l).length ≤ P.length + 2100 * l.length
  | [], P, _ => by simp [logOf]
  | s :: l, P, h => by
    have hs := h s (by simp)
    have ih := logOf_len l (P ++ lay P.length s) (fun x hx => h x (by simp [hx]))
    have hg := gapOf_le P.length
    rw [List.length_append, lay_len] at ih
    rw [logOf, List.length_cons]
    omega
theorem infoInt : (Tryz.prog.info? 3).map (fun i => (i.zero, i.size, i.bytes)) = some (some (.int .i64 0), 1, 8) := by kernel_rfl
theorem news_one (w1 : World) (v : Value) (t : TypeId) : ∀ j u, [v][j]? = some u → (w1.alloc (.cells #[v] t)).cell? ((⟨w1.heap.size, 0, none⟩ : Addr).add j) = some u := by
  intro j u hj
  match j, hj with
  | 0, hj => simp at hj; subst hj; simp [Addr.add]
def LdJ (w : World) (l : List (List UInt8)) (lg en i : Value) (wr : World) : Prop :=
  ∃ j : Nat, j ≤ l.length ∧ lg = .string (bs (logOf [] (l.take j))) ∧ i = .int .i64 j ∧ wr.ownsRow w.heap.size 3 1 en j (eCells (endsOf [] (l.take j))) ∧ Below w.heap.size w wr
theorem owns_on {w wr w1 : World} {t : TypeId} {s : Nat} {v : Value} {n : Nat} {xs : List Value} (h : wr.ownsRow w.heap.size t s v n xs) (b : Below wr.heap.size wr w1) : w1.ownsRow w.heap.size t s v n xs :=
  h.kept (row := none) ⟨b.os, b.tape, b.output, b.size, fun k hk _ => b.block k hk⟩ (by cases v.ownBlock <;> simp)
theorem below_own {w wr w4 : World} {t : TypeId} {s : Nat} {v : Value} {n : Nat} {xs : List Value} (hb : Below w.heap.size w wr) (h : wr.ownsRow w.heap.size t s v n xs) (hg : wr.grownBy w4 v.ownBlock) : Below w.heap.size w w4 :=
  hb.trans ⟨hg.os, hg.tape, hg.output, hg.size, fun k hk => hg.block k (Nat.lt_of_lt_of_le hk hb.size) fun e => by have := (h.lt k e.symm).1; omega⟩
end Go.Proofs.YtdkgieaanpfhcaaGreatDoor
