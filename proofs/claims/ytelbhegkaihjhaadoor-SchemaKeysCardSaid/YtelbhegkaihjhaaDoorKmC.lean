/-
  The document's own keys, walked: what stands behind a beginning, which row stands ahead. Conditions: as each theorem states.
-/
import Derived.Test.YtelbhegkaihjhaaDoorKmB
import Derived.Test.YtelbhegkaihjhaaDoorKyF
namespace Go.Proofs.YtelbhegkaihjhaaDoor
open Go.RowKit
open Vi

theorem ext_size {P : ByteArray} {j : Nat} (h : j ≤ P.size) : (P.extract 0 j).size = j := by
  have : (P.extract 0 j).data.toList.length = min j P.data.toList.length := by rw [Lib.extract_data, List.drop_zero, Nat.sub_zero, List.length_take]
  rw [size_len, size_len] at this; omega
theorem ext_ext {P : ByteArray} {i j : Nat} (h : i ≤ j) : (P.extract 0 j).extract 0 i = P.extract 0 i := by
  have h2 : ((P.extract 0 j).extract 0 i).data.toList = (P.extract 0 i).data.toList := by
    simp only [Lib.extract_data, List.drop_zero, Nat.sub_zero, List.take_take]
    rw [Nat.min_eq_left h]
  have e1 := bs_of ((P.extract 0 j).extract 0 i)
  have e2 := bs_of (P.extract 0 i)
  rw [← e1, ← e2, h2]
theorem ext_bs (P : ByteArray) (k : Nat) : P.extract 0 k = bs (P.data.toList.take k) := by
  rw [← bs_of (P.extract 0 k), Lib.extract_data, List.drop_zero, Nat.sub_zero]
theorem ext_whole (P : ByteArray) : P.extract 0 P.size = P := by
  rw [ext_bs, ← size_len, List.take_length, bs_of]
theorem ext_facts {p t : ByteArray} {i : Nat} (h : i + 1 ≤ p.size) (ht : t = p.extract 0 (i + 1)) : t.size = i + 1 ∧ (∀ (h : i < t.size) (h2 : i < p.size), t[i] = p[i]) ∧ t.extract 0 i = p.extract 0 i := by
  subst ht
  exact ⟨ext_size h, fun h1 h2 => take_at p (i + 1) i h1 h2, ext_ext (by omega)⟩
def AfR (p : ByteArray) (k : Nat) (q : Value) : Prop := ∃ (j : Nat) (t : ByteArray), k ≤ j ∧ j ≤ p.size ∧ t = p.extract 0 j ∧ q = .string t
end Go.Proofs.YtelbhegkaihjhaaDoor
