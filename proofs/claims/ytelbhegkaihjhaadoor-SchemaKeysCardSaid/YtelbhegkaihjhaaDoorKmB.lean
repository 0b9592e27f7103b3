/-
  The document's own keys, walked: numbers as bytes and back, what stands behind a beginning. Conditions: as each theorem states.
-/
import Derived.Test.YtelbhegkaihjhaaDoorKmA
namespace Go.Proofs.YtelbhegkaihjhaaDoor
open Go.RowKit
open Vi

theorem numTo_at (s : ByteArray) {j : Nat} (h : j < s.size) : numTo s.data.toList (j + 1) = numTo s.data.toList j * 256 + s[j].toNat := by
  rw [numTo_on (l := s.data.toList) h]; rfl
theorem rnum_at {s : ByteArray} (h8 : 8 ≤ s.size) (w : World) :
    Calls Tryd.prog 41 #[.string s] w fun e w' => e = .returned (.int .u64 (be8 s.data.toList)) ∧ w = w' := by
  go_enter Tryd.func41, Tryd.ntmps41
  go_wp2
  go_loop [3, 4] (fun n i => ∃ j : Nat, j ≤ 8 ∧ n = .int .u64 (numTo s.data.toList j) ∧ i = .int .i64 j) (fun _ i => 8 - (intOf i).toNat)
  case atStart => exact ⟨0, by omega, by rw [numTo_zero]; rfl, rfl⟩
  case round =>
    obtain ⟨j, hj, rfl, rfl⟩ := hrel
    by_cases hlt : j < 8
    · have hjs : j < s.size := by omega
      have h56 := numTo_small (l := s.data.toList) (j := j) (by omega)
      have hon := numTo_at s hjs
      have hc := s[j].toNat_lt
      generalize numTo s.data.toList j = n at h56 hon
      replace hon := Lib.hid hon
      go_wp2
      go_round
      case rel => exact ⟨j + 1, by omega, val_int (by rw [hon.out]; (try simp only [IntKind.wrap_u64]); omega), by go_num⟩
      case measure => simp [intOf]; omega
    · have h8j : j = 8 := by omega
      subst h8j
      go_wp2
      go_ret
      exact ⟨by rw [numTo_be8 h8]; rfl, rfl⟩
set_option maxRecDepth 100000 in
theorem drop_any (n : Nat) (hn : n < 18446744073709551616) (w : World) :
    Calls Tryd.prog 42 #[.int .u64 n] w fun e w' => e = .returned (.int .i64 ((n : Int) - 9223372036854775808)) ∧ w = w' := by
  replace hn := Lib.hid hn
  by_cases h : 9223372036854775808 ≤ n
  · have hd : decide ((9223372036854775808 : Int) ≤ (n : Int)) = true := decide_eq_true (by omega)
    replace h := Lib.hid h
    go_enter Tryd.func42, Tryd.ntmps42
    go_wp2
    go_ret
    exact ⟨ret_int (by have := h.out; have := hn.out; simp only [IntKind.wrap_u64, wrap64]; omega), rfl⟩
  · have hd : decide ((9223372036854775808 : Int) ≤ (n : Int)) = false := decide_eq_false (by omega)
    replace h := Lib.hid h
    go_enter Tryd.func42, Tryd.ntmps42
    go_wp2
    go_ret
    exact ⟨ret_int (by have := h.out; have := hn.out; simp only [IntKind.wrap_u64, wrap64]; omega), rfl⟩
set_option maxRecDepth 100000 in
theorem rlift_any (n : Int) (h1 : -9223372036854775808 ≤ n) (h2 : n ≤ 9223372036854775807) (w : World) :
    Calls Tryd.prog 32 #[.int .i64 n] w fun e w' => e = .returned (.int .u64 (lift n)) ∧ w = w' := by
  have hl : (lift n : Int) = n + 9223372036854775808 := by unfold lift; omega
  replace hl := Lib.hid hl
  by_cases h : n < 0
  · go_enter Tryd.func32, Tryd.ntmps32
    go_wp2
    go_ret
    exact ⟨ret_int (by rw [hl.out]; (try simp only [IntKind.wrap_u64, IntKind.wrap_i64]); omega), rfl⟩
  · go_enter Tryd.func32, Tryd.ntmps32
    go_wp2
    go_ret
    exact ⟨ret_int (by rw [hl.out]; (try simp only [IntKind.wrap_u64, IntKind.wrap_i64]); omega), rfl⟩
def bgCells (n j : Nat) : Array Value := #[dcell n 7 j, dcell n 6 j, dcell n 5 j, dcell n 4 j, dcell n 3 j, dcell n 2 j, dcell n 1 j, dcell n 0 j]
def BgJ (w : World) (n : Nat) (nv iv : Value) (wr : World) : Prop :=
  ∃ j : Nat, j ≤ 8 ∧ nv = .int .u64 ((n / 256 ^ j : Nat) : Int) ∧ iv = .int .i64 (7 - (j : Int)) ∧ wr.heap[w.heap.size]? = some (.cells (bgCells n j) 5 (0, 0)) ∧ Below w.heap.size w wr
theorem eight_bytes (W : World) (g : Nat) {t : TypeId} (c7 c6 c5 c4 c3 c2 c1 c0 : Int) (h : W.heap[g]? = some (.cells #[.int .u8 c7, .int .u8 c6, .int .u8 c5, .int .u8 c4, .int .u8 c3, .int .u8 c2, .int .u8 c1, .int .u8 c0] t (0, 0))) :
    (convert 70 9 (.slice (some ⟨g, 0, none⟩) 8 8)).run Tryd.prog W = .ok (.string (bs [UInt8.ofNat c7.toNat, UInt8.ofNat c6.toNat, UInt8.ofNat c5.toNat, UInt8.ofNat c4.toNat, UInt8.ofNat c3.toNat, UInt8.ofNat c2.toNat, UInt8.ofNat c1.toNat, UInt8.ofNat c0.toNat])) W := by
  rw [run_convert_bytes_string _ _ _ 5 _ _ _ Tryd.underlying70 Tryd.underlying5 Tryd.underlying9]
  have hl := run_loadCells_list (P := Tryd.prog) W ⟨g, 0, none⟩ ([c7, c6, c5, c4, c3, c2, c1, c0].map (Value.int .u8)) (fun j v hj => by
    have e : (⟨g, 0, none⟩ : Addr).add j = ⟨g, j, none⟩ := by unfold Addr.add; split <;> simp_all
    rw [e]
    exact cell_in h j v (by simpa using hj))
  rw [run_bytesToString _ _ 8 8 [c7, c6, c5, c4, c3, c2, c1, c0] hl]
  rfl
theorem dcell_on {n k j : Nat} (h : k < j) : dcell n k j = .int .u8 (dgt n k : Int) := by unfold dcell; rw [if_pos h]
theorem bg_full {W : World} {g n : Nat} {t : TypeId} (h : W.heap[g]? = some (.cells (bgCells n 8) t (0, 0))) :
    (convert 70 9 (.slice (some ⟨g, 0, none⟩) 8 8)).run Tryd.prog W = .ok (.string (bs (big8 n))) W := by
  rw [big8_digits]
  exact eight_bytes W g _ _ _ _ _ _ _ _ h
theorem bg_step {w wr : World} {n j : Nat} (hj : j < 8) {v : Value} (hv : v = .int .u8 (dgt n j : Int)) (h : wr.heap[w.heap.size]? = some (.cells (bgCells n j) 5 (0, 0))) (hb : Below w.heap.size w wr) (k : Nat) (hk : k = 7 - j) :
    (wr.setCell ⟨w.heap.size, k, none⟩ v).heap[w.heap.size]? = some (.cells (bgCells n (j + 1)) 5 (0, 0)) ∧ Below w.heap.size w (wr.setCell ⟨w.heap.size, k, none⟩ v) := by
  refine ⟨?_, hb.setCell (Nat.le_refl _) v⟩
  rw [heap_set h k v]
  subst hv hk
  rcases (show j = 0 ∨ j = 1 ∨ j = 2 ∨ j = 3 ∨ j = 4 ∨ j = 5 ∨ j = 6 ∨ j = 7 by omega) with rfl | rfl | rfl | rfl | rfl | rfl | rfl | rfl <;> rfl
theorem bg_cell {W : World} {g n j : Nat} {t : TypeId} (hj : j < 8) (k : Nat) (hk : k = 7 - j) (h : W.heap[g]? = some (.cells (bgCells n j) t (0, 0))) : W.cell? ⟨g, k, none⟩ = some (dcell n j j) := by
  subst hk
  rcases (show j = 0 ∨ j = 1 ∨ j = 2 ∨ j = 3 ∨ j = 4 ∨ j = 5 ∨ j = 6 ∨ j = 7 by omega) with rfl | rfl | rfl | rfl | rfl | rfl | rfl | rfl <;> exact cell_in h _ _ rfl
set_option maxHeartbeats 2000000 in
set_option maxRecDepth 100000 in
theorem rbig_any (n : Nat) (hn : n < 18446744073709551616) (w : World) :
    Calls Tryd.prog 31 #[.int .u64 n] w fun e w' => e = .returned (.string (bs (big8 n))) ∧ Below w.heap.size w w' := by
  have h0 : Hid ((w.alloc (.cells #[.int .u8 0, .int .u8 0, .int .u8 0, .int .u8 0, .int .u8 0, .int .u8 0, .int .u8 0, .int .u8 0] 5)).heap[w.heap.size]? = some (.cells (bgCells n 0) 5 (0, 0))) := heap_alloc_new _ _
  go_enter Tryd.func31, Tryd.ntmps31
  go_wp2
  go_loopw [0, 4] (BgJ w n) (fun _ i _ => (intOf i + 1).toNat)
  case atStart => exact ⟨0, by omega, by rw [Nat.pow_zero, Nat.div_one], rfl, h0.out, (Below.refl _ _).alloc (Nat.le_refl _) _⟩
  case round =>
    obtain ⟨j, hj, rfl, rfl, hbx, hb⟩ := hrel
    by_cases hlt : j < 8
    · obtain ⟨k, hk⟩ : ∃ k : Nat, k = 7 - j := ⟨_, rfl⟩
      have hkj : (7 : Int) - (j : Int) = (k : Int) := by omega
      have hc := bg_cell hlt k hk hbx
      have hf := free_in hbx k
      have hN : n / 256 ^ j < 18446744073709551616 := Nat.lt_of_le_of_lt (Nat.div_le_self _ _) hn
      have hnext : n / 256 ^ j / 256 = n / 256 ^ (j + 1) := by rw [Nat.div_div_eq_div_mul, Nat.pow_succ]
      have hdg : dgt n j = n / 256 ^ j % 256 := rfl
      generalize n / 256 ^ j = N at hN hnext hdg
      have HB := Lib.hid (And.intro hbx (And.intro hb (And.intro hnext hdg)))
      have hk7 : k ≤ 7 := by omega
      rw [hkj]
      clear hbx hb hnext hdg
      replace hk := Lib.hid hk
      replace hkj := Lib.hid hkj
      go_wp2
      go_roundw
      case rel => exact ⟨j + 1, by omega, val_int (by rw [← HB.out.2.2.1]; omega), val_int (by have := hkj.out; (try simp only [IntKind.wrap_i64]); omega), (bg_step hlt (val_int (by rw [HB.out.2.2.2]; (try simp only [IntKind.wrap_u8]); omega)) HB.out.1 HB.out.2.1 k hk.out).1, (bg_step hlt (val_int (by rw [HB.out.2.2.2]; (try simp only [IntKind.wrap_u8]); omega)) HB.out.1 HB.out.2.1 k hk.out).2⟩
      case measure => first | (simp [intOf]; done) | (simp [intOf]; omega)
    · have h8 : j = 8 := by omega
      subst h8
      have hc := bg_full hbx
      replace hb := Lib.hid hb
      clear hbx
      go_wp2
      go_ret
      exact ⟨rfl, hb.out⟩
end Go.Proofs.YtelbhegkaihjhaaDoor
