/-
  The Go text of what stands behind a beginning, walked. Conditions: as each theorem states.
-/
import Derived.Test.YtelbhegkaihjhaaDoorKyC
namespace Go.Proofs.YtelbhegkaihjhaaDoor
open Go.RowKit
open Vi

theorem conv_bytes (w : World) (s : ByteArray) : ∃ cap w', (convert 9 70 (.string s)).run Tryd.prog w = .ok (.slice (some ⟨w.heap.size, 0, none⟩) s.size cap) w' ∧ s.size ≤ cap ∧ w'.heap.size = w.heap.size + 1 ∧ Below w.heap.size w w' ∧
    (∀ j (hj : j < s.size), w'.cell? ⟨w.heap.size, j, none⟩ = some (.int .u8 (s[j].toNat : Int))) ∧ (∀ j, j < s.size → w'.frozen? ⟨w.heap.size, j, none⟩ = false) := by
  refine ⟨_, _, run_bytes_of_string w _ _ 5 s Tryd.underlying9 Tryd.underlying70 Tryd.underlying5, grownCap_ge _ _ _ _, by simp, (Below.refl _ w).drew.alloc (Nat.le_refl _) _, fun j hj => ?_, fun j hj => ?_⟩
  · exact (World.cell?_alloc_mark w.drew _ _ _ j).trans (bytesRow_at s _ j hj)
  · have h := heap_alloc_new w.drew (.cells (bytesRow s (grownCap w s.size 0 5)) 5 ((bytesRow s (grownCap w s.size 0 5)).size, (bytesRow s (grownCap w s.size 0 5)).size + 1))
    have h2 : j < (bytesRow s (grownCap w s.size 0 5)).size := (Array.getElem?_eq_some_iff.1 (bytesRow_at s (grownCap w s.size 0 5) j hj)).1
    unfold World.frozen?
    rw [show w.heap.size = w.drew.heap.size from rfl, h]
    simp; omega
theorem take_at (s : ByteArray) (k j : Nat) (hj : j < (s.extract 0 k).size) (hk : j < s.size) : (s.extract 0 k)[j] = s[j] := by
  have h1 : (s.extract 0 k).data.toList[j]? = s.data.toList[j]? := by
    rw [Lib.extract_data, List.drop_zero, Nat.sub_zero, List.getElem?_take, if_pos]
    have : (s.extract 0 k).data.toList.length = min k s.data.toList.length := by rw [Lib.extract_data, List.drop_zero, Nat.sub_zero, List.length_take]
    have h2 : j < (s.extract 0 k).data.toList.length := hj
    omega
  rw [List.getElem?_eq_getElem (show j < (s.extract 0 k).data.toList.length from hj), List.getElem?_eq_getElem (show j < s.data.toList.length from hk)] at h1
  exact Option.some.inj h1
set_option maxRecDepth 100000 in
set_option maxHeartbeats 1000000 in
theorem after_some (p : ByteArray) (hp : p.size ≤ 1000000) (k : Nat) (hk : k < p.size) (hc : p[k].toNat < 255) (h : ∀ i (hi : i < p.size), k < i → p[i].toNat = 255) (w : World) :
    Calls Tryd.prog 30 #[.string p] w fun e w' => e = .returned (.tuple #[.string (bs (p.data.toList.take k ++ [UInt8.ofNat (p[k].toNat + 1)])), .bool true]) ∧ Below w.heap.size w w' := by
  have HA := Lib.hid h
  clear h
  have hez : (p.extract 0 (k + 1)).size = k + 1 := by
    have : (p.extract 0 (k + 1)).data.toList.length = min (k + 1) p.data.toList.length := by rw [Lib.extract_data, List.drop_zero, Nat.sub_zero, List.length_take]
    rw [size_len, size_len] at this; omega
  obtain ⟨cap, w1, hrun, hcap, hz1, hb1, hcell, hfree⟩ := conv_bytes w (p.extract 0 (k + 1))
  rw [hez] at hrun hcap
  have hck : w1.cell? ⟨w.heap.size, k, none⟩ = some (.int .u8 (p[k].toNat : Int)) := by
    rw [hcell k (by omega), take_at p (k + 1) k _ hk]
  have hfk := hfree k (by omega)
  have hback : (convert 70 9 (.slice (some ⟨w.heap.size, 0, none⟩) (k + 1) cap)).run Tryd.prog (w1.setCell ⟨w.heap.size, k, none⟩ (.int .u8 ((p[k].toNat : Int) + 1))) = .ok (.string (bs (p.data.toList.take k ++ [UInt8.ofNat (p[k].toNat + 1)]))) (w1.setCell ⟨w.heap.size, k, none⟩ (.int .u8 ((p[k].toNat : Int) + 1))) := by
    have hl : (p.data.toList.take k ++ [UInt8.ofNat (p[k].toNat + 1)]).length = k + 1 := by
      rw [List.length_append, List.length_take, size_len]; simp; omega
    have := run_convert_bytes_back (P := Tryd.prog) (w1.setCell ⟨w.heap.size, k, none⟩ (.int .u8 ((p[k].toNat : Int) + 1))) 70 9 5 ⟨w.heap.size, 0, none⟩ cap (p.data.toList.take k ++ [UInt8.ofNat (p[k].toNat + 1)]) Tryd.underlying70 Tryd.underlying5 Tryd.underlying9 (fun j hj => by
      have hadd : (⟨w.heap.size, 0, none⟩ : Addr).add j = ⟨w.heap.size, j, none⟩ := by unfold Addr.add; split <;> simp_all
      rw [hadd]
      by_cases hjk : j = k
      · subst hjk
        rw [World.cell?_setCell_same _ _ _ hck]
        rw [List.getElem_append_right (by rw [List.length_take, size_len]; omega)]
        simp
        omega
      · have hlt : j < k := by omega
        rw [World.cell?_setCell_other _ _ _ _ (by intro e; injection e with _ e2 _; omega), hcell j (by omega), take_at p (k + 1) j _ (by omega), List.getElem_append_left (by rw [List.length_take, size_len]; omega), List.getElem_take]
        rfl)
    rw [hl] at this
    exact this
  have HC := Lib.hid (And.intro hcell hfree)
  have HZ := Lib.hid hz1
  clear hcell hfree hz1 hez
  go_enter Tryd.func30, Tryd.ntmps30
  go_wp2
  go_loop [4] (fun i => ∃ j : Nat, k < j ∧ j ≤ p.size ∧ i = .int .i64 j) (fun i => (intOf i).toNat)
  case atStart => exact ⟨p.size, hk, Nat.le_refl _, rfl⟩
  case round =>
    obtain ⟨j, hkj, hj, rfl⟩ := hrel
    obtain ⟨i, rfl⟩ : ∃ i, j = i + 1 := ⟨j - 1, by omega⟩
    have hi : i < p.size := by omega
    by_cases h0 : i = k
    · subst h0
      have h255 : ((p[i].toNat : Int) == 255) = false := by simp; omega
      go_wp2
      go_ret2
      exact ⟨by simp, hb1.setCell (Nat.le_refl _) _⟩
    · have h255 : ((p[i].toNat : Int) == 255) = true := by rw [HA.out i hi (by omega)]; rfl
      go_wp2
      go_round
      case rel => exact ⟨i, by omega, by omega, rfl⟩
      case measure => simp [intOf]
end Go.Proofs.YtelbhegkaihjhaaDoor
