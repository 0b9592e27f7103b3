/-
  The document's own keys, walked: what stands behind a beginning, which row stands ahead. Conditions: as each theorem states.
-/
import Derived.Test.YthablblbegmmaaaDoorKmB
import Derived.Test.YthablblbegmmaaaDoorKyF
namespace Go.Proofs.YthablblbegmmaaaDoor
open Go.RowKit
open Vi

theorem ext_size {P : ByteArray} {j : Nat} (h : j ≤ P.size) : (P.extract 0 j).size = j := by
  have : (P.extract 0 j).data.toList.length = min j P.data.toList.length := by rw [Lib.extract_data, List.drop_zero, Nat.sub_zero, List.length_take]
  rw [size_len, size_len] at this; omega
theorem ext_ext {P : ByteArray} {i j : Nat} (h : i ≤ j) : (P.extract 0 j).extract 0 i = P.extract 0 i := by
  have h2 : ((P.extract 0 j).extract 0 i).data.toList = (P.extract 0 i).data.toList := by
    simp only [Lib.extract_data, List.drop_zero, Nat.sub_zero, List.take_take]
    rw [Nat.min_eq_left h]
  have e1 := bs_of ((P.extract 0 j).extract 0 i)
  have e2 := bs_of (P.extract 0 i)
  rw [← e1, ← e2, h2]
theorem ext_bs (P : ByteArray) (k : Nat) : P.extract 0 k = bs (P.data.toList.take k) := by
  rw [← bs_of (P.extract 0 k), Lib.extract_data, List.drop_zero, Nat.sub_zero]
theorem ext_whole (P : ByteArray) : P.extract 0 P.size = P := by
  rw [ext_bs, ← size_len, List.take_length, bs_of]
theorem ext_facts {p t : ByteArray} {i : Nat} (h : i + 1 ≤ p.size) (ht : t = p.extract 0 (i + 1)) : t.size = i + 1 ∧ (∀ (h : i < t.size) (h2 : i < p.size), t[i] = p[i]) ∧ t.extract 0 i = p.extract 0 i := by
  subst ht
  exact ⟨ext_size h, fun h1 h2 => take_at p (i + 1) i h1 h2, ext_ext (by omega)⟩
def AfR (p : ByteArray) (k : Nat) (q : Value) : Prop := ∃ (j : Nat) (t : ByteArray), k ≤ j ∧ j ≤ p.size ∧ t = p.extract 0 j ∧ q = .string t
set_option maxRecDepth 100000 in
theorem rafter_some (p : ByteArray) (hp : p.size ≤ 1000000) (k : Nat) (hk : k < p.size) (hc : p[k].toNat < 255) (h : ∀ i (hi : i < p.size), k < i → p[i].toNat = 255) (w : World) :
    Calls Tryd.prog 12 #[.string p] w fun e w' => e = .returned (.tuple #[.string (bs (p.data.toList.take k ++ [UInt8.ofNat (p[k].toNat + 1)])), .bool true]) ∧ Below w.heap.size w w' := by
  have HA := Lib.hid h
  have hob := one_byte
  clear h
  go_enter Tryd.func12, Tryd.ntmps12
  go_wp2
  go_loop [0, 4] (fun q _ => AfR p (k + 1) q) (fun q _ => strLen q)
  case atStart => exact ⟨p.size, p, hk, Nat.le_refl _, (ext_whole p).symm, rfl⟩
  case round =>
    obtain ⟨j, t, hkj, hj, ht, rfl⟩ := hrel
    obtain ⟨i, rfl⟩ : ∃ i, j = i + 1 := ⟨j - 1, by omega⟩
    obtain ⟨hz, hti, hte⟩ := ext_facts hj ht
    by_cases h0 : i = k
    · subst h0
      have hcc : (t[i]'(by omega)).toNat < 255 := by rw [hti (by omega) hk]; exact hc
      have hz2 : (t.extract 0 i).size = i := by rw [hte]; exact ext_size (by omega)
      have HT := Lib.hid (And.intro (hti (by omega) hk) hte)
      clear hti hte ht
      have hbz := bs_size
      go_wp2
      go_ret2
      refine ⟨?_, (Below.refl _ _).alloc (Nat.le_refl _) _⟩
      have e1 : t.extract 0 i ++ bs [UInt8.ofNat (((t[i]'(by omega)).toNat : Int) + 1).toNat] = bs (p.data.toList.take i ++ [UInt8.ofNat (p[i].toNat + 1)]) := by
        rw [HT.out.2, ext_bs, bs_append, HT.out.1]; rfl
      first | exact congrArg (fun x => Ending.returned (.tuple #[.string x, .bool true])) e1 | (simp only [e1]) | (rw [← e1]; simp)
    · have h255 : (t[i]'(by omega)).toNat = 255 := by rw [hti (by omega) (by omega)]; exact HA.out i (by omega) (by omega)
      have HT := Lib.hid hte
      clear hti hte ht
      go_wp2
      go_round
      case rel => exact ⟨i, _, by omega, by omega, HT.out, rfl⟩
      case measure => first | (simp [strLen, hz]; done) | (simp [strLen, hz]; rw [HT.out, ext_size (by omega)]; omega)
set_option maxRecDepth 100000 in
theorem rafter_none (p : ByteArray) (hp : p.size ≤ 1000000) (h : ∀ i (hi : i < p.size), p[i].toNat = 255) (w : World) :
    Calls Tryd.prog 12 #[.string p] w fun e w' => e = .returned (.tuple #[.string (bs []), .bool false]) ∧ Below w.heap.size w w' := by
  have HA := Lib.hid h
  clear h
  go_enter Tryd.func12, Tryd.ntmps12
  go_wp2
  go_loop [0, 4] (fun q _ => AfR p 0 q) (fun q _ => strLen q)
  case atStart => exact ⟨p.size, p, by omega, Nat.le_refl _, (ext_whole p).symm, rfl⟩
  case round =>
    obtain ⟨j, t, hkj, hj, ht, rfl⟩ := hrel
    by_cases h0 : j = 0
    · have hz : t.size = 0 := by rw [ht, h0]; exact ext_size (by omega)
      clear ht
      go_wp2
      go_ret2
      exact ⟨rfl, Below.refl _ _⟩
    · obtain ⟨i, rfl⟩ : ∃ i, j = i + 1 := ⟨j - 1, by omega⟩
      obtain ⟨hz, hti, hte⟩ := ext_facts hj ht
      have h255 : (t[i]'(by omega)).toNat = 255 := by rw [hti (by omega) (by omega)]; exact HA.out i (by omega)
      have HT := Lib.hid hte
      clear hti hte ht
      go_wp2
      go_round
      case rel => exact ⟨i, _, by omega, by omega, HT.out, rfl⟩
      case measure => first | (simp [strLen, hz]; done) | (simp [strLen, hz]; rw [HT.out, ext_size (by omega)]; omega)
end Go.Proofs.YthablblbegmmaaaDoor
