/-
  Texts as bytes, and a row of texts in memory. Conditions: as each theorem states.
-/
import Derived.Test.YtmgfgododhplpaaRows
import Derived.WalkKit
import Derived.ProofKit
import Derived.OpenShut
import Derived.Lib.Hide
import Derived.Lib.Strings
namespace Go.Proofs.Ytmgfgododhplpaa.Bl
open Go.RowKit
def bs (l : List UInt8) : ByteArray := ⟨l.toArray⟩
theorem bs_toList (l : List UInt8) : (bs l).data.toList = l := rfl
theorem bs_of (s : ByteArray) : bs s.data.toList = s := by cases s; rfl
theorem bs_size (l : List UInt8) : (bs l).size = l.length := by simp [bs, ByteArray.size]
theorem bs_list (l : List UInt8) : (bs l).toList = l := by rw [Lib.toList_data]; rfl

/-- A row of texts in memory. -/
def SRow (w : World) (A : Option Addr) (l : List (List UInt8)) : Prop :=
  0 < l.length → ∃ a, A = some a ∧ a.block < w.heap.size ∧ ∀ i (h : i < l.length), w.cell? (a.add i) = some (.string (bs l[i]))
theorem block_add (a : Addr) (n : Nat) : (a.add n).block = a.block := by unfold Addr.add; split <;> rfl
theorem SRow.below {B : Nat} {w w' : World} {A : Option Addr} {l : List (List UInt8)} (h : SRow w A l) (hb : Below B w w') (hB : w.heap.size ≤ B) : SRow w' A l := fun h0 => by
  obtain ⟨a, e, hlt, hc⟩ := h h0
  exact ⟨a, e, Nat.lt_of_lt_of_le hlt hb.size, fun i hi => (hb.cell (p := a.add i) (by rw [block_add]; omega)).trans (hc i hi)⟩
end Go.Proofs.Ytmgfgododhplpaa.Bl
