/-
  The Go text of a key's places, walked. Conditions: as each theorem states.
-/
import Derived.Test.YtmgfgododhplpaaBlA
namespace Go.Proofs.Ytmgfgododhplpaa.Bl
open Go.RowKit
open Crc (ret_int val_int)

def pl (A B bits i : Nat) : Nat := (A + i * B + i * i) % 4294967296 % bits
def pv (A B bits i : Nat) : Value := .int .i64 ((pl A B bits i : Nat) : Int)
def pcs (A B bits : Nat) : Array Value := #[pv A B bits 0, pv A B bits 1, pv A B bits 2, pv A B bits 3, pv A B bits 4, pv A B bits 5]
def pvk (A B bits k i : Nat) : Value := if i < k then pv A B bits i else .int .i64 0
def PlJ (w : World) (A B bits : Nat) (i : Value) (wr : World) : Prop :=
  ∃ k : Nat, k ≤ 6 ∧ i = .int .i64 k ∧ Below w.heap.size w wr ∧ w.heap.size + 1 < wr.heap.size ∧
    (∀ j, j < 6 → wr.cell? ⟨w.heap.size, j, none⟩ = some (.int .i64 0) ∧ wr.frozen? ⟨w.heap.size, j, none⟩ = false) ∧
    (∀ j, j < 6 → wr.cell? ⟨w.heap.size + 1, j, none⟩ = some (pvk A B bits k j) ∧ wr.frozen? ⟨w.heap.size + 1, j, none⟩ = false)
def z6 : Array Value := #[.int .i64 0, .int .i64 0, .int .i64 0, .int .i64 0, .int .i64 0, .int .i64 0]
theorem z6_at (j : Nat) (h : j < 6) : z6[j]? = some (.int .i64 0) := by
  match j, h with
  | 0, _ => rfl
  | 1, _ => rfl
  | 2, _ => rfl
  | 3, _ => rfl
  | 4, _ => rfl
  | 5, _ => rfl
theorem two_new (w : World) : ∀ j, j < 6 → (((w.alloc (.cells z6 30)).alloc (.cells z6 30)).cell? ⟨w.heap.size, j, none⟩ = some (.int .i64 0) ∧ ((w.alloc (.cells z6 30)).alloc (.cells z6 30)).frozen? ⟨w.heap.size, j, none⟩ = false) ∧
    (((w.alloc (.cells z6 30)).alloc (.cells z6 30)).cell? ⟨w.heap.size + 1, j, none⟩ = some (.int .i64 0) ∧ ((w.alloc (.cells z6 30)).alloc (.cells z6 30)).frozen? ⟨w.heap.size + 1, j, none⟩ = false) := by
  intro j hj
  have h0 : ((w.alloc (.cells z6 30)).alloc (.cells z6 30)).heap[w.heap.size]? = some (.cells z6 30) :=
    (Below.heap_alloc _ _ _ (by simp)).trans (heap_alloc_last w _)
  have h1 : ((w.alloc (.cells z6 30)).alloc (.cells z6 30)).heap[w.heap.size + 1]? = some (.cells z6 30) := by
    have h := heap_alloc_last (w.alloc (Obj.cells z6 30)) (Obj.cells z6 30)
    rw [show (w.alloc (Obj.cells z6 30)).heap.size = w.heap.size + 1 by simp] at h
    exact h
  refine ⟨⟨?_, ?_⟩, ?_, ?_⟩
  · rw [cell_of_row _ _ j z6 _ (0, 0) h0]; exact z6_at j hj
  · unfold World.frozen?; rw [h0]; simp
  · rw [cell_of_row _ _ j z6 _ (0, 0) h1]; exact z6_at j hj
  · unfold World.frozen?; rw [h1]; simp
theorem pl_start {w w1 w2 : World} (A B bits : Nat) (hb1 : Below ((w.alloc (.cells z6 30)).alloc (.cells z6 30)).heap.size ((w.alloc (.cells z6 30)).alloc (.cells z6 30)) w1) (hb2 : Below w1.heap.size w1 w2) : PlJ w A B bits (.int .i64 0) w2 := by
  have hb := hb1.trans (hb2.mono hb1.size)
  have hz := hb.size
  have e : ((w.alloc (.cells z6 30)).alloc (.cells z6 30)).heap.size = w.heap.size + 2 := by simp
  rw [e] at hz
  have h2 := two_new w
  refine ⟨0, by omega, rfl, ?_, by omega, fun j hj => ?_, fun j hj => ?_⟩
  · exact (((Below.refl _ w).alloc (Nat.le_refl _) _).alloc (by simp) _).trans (hb.mono (by simp; omega))
  · exact ⟨(hb.cell (p := ⟨w.heap.size, j, none⟩) (by rw [e]; show w.heap.size < _; omega)).trans (h2 j hj).1.1, (hb.frozen (p := ⟨w.heap.size, j, none⟩) (by rw [e]; show w.heap.size < _; omega)).trans (h2 j hj).1.2⟩
  · refine ⟨(hb.cell (p := ⟨w.heap.size + 1, j, none⟩) (by rw [e]; show w.heap.size + 1 < _; omega)).trans ?_, (hb.frozen (p := ⟨w.heap.size + 1, j, none⟩) (by rw [e]; show w.heap.size + 1 < _; omega)).trans (h2 j hj).2.2⟩
    rw [(h2 j hj).2.1]; simp [pvk]
theorem pl_next {w wr : World} {A B bits k : Nat} {x : Int} (hk : k < 6) (hx : x = (pl A B bits k : Nat)) (h : PlJ w A B bits (.int .i64 k) wr) : PlJ w A B bits (.int .i64 ((k + 1 : Nat) : Int)) (wr.setCell ⟨w.heap.size + 1, k, none⟩ (.int .i64 x)) := by
  obtain ⟨k', hk6, ek, hb, hz, h0, h1⟩ := h
  obtain rfl : k' = k := by injection ek with _ e; omega
  subst hx
  refine ⟨k' + 1, by omega, rfl, hb.setCell (by simp) _, by simpa using hz, fun j hj => ?_, fun j hj => ?_⟩
  · exact ⟨by rw [World.cell?_setCell_other _ _ _ _ (by intro e; injection e with e1 _ _; omega)]; exact (h0 j hj).1, by rw [World.frozen?_setCell]; exact (h0 j hj).2⟩
  · refine ⟨?_, by rw [World.frozen?_setCell]; exact (h1 j hj).2⟩
    by_cases e : j = k'
    · subst e
      rw [World.cell?_setCell_same _ _ _ (h1 j hj).1]; simp [pvk, pv]
    · rw [World.cell?_setCell_other _ _ _ _ (by intro e1; injection e1 with _ e2 _; omega), (h1 j hj).1]
      unfold pvk
      have : (j < k' + 1) ↔ (j < k') := by omega
      simp only [this]
theorem pl_eq (A B bits k : Nat) (hb0 : 1 ≤ bits) (hb : bits ≤ 9000000000000000000) : wrap64 (((A : Int) + (k : Int) * (B : Int) + (k : Int) * (k : Int)) % 4294967296 % (bits : Int)) = ((pl A B bits k : Nat) : Int) := by
  have e : ((A : Int) + (k : Int) * (B : Int) + (k : Int) * (k : Int)) % 4294967296 % (bits : Int) = ((pl A B bits k : Nat) : Int) := by unfold pl; simp
  rw [e]
  have h : pl A B bits k < bits := Nat.mod_lt _ hb0
  have h2 : -9223372036854775808 ≤ ((pl A B bits k : Nat) : Int) ∧ ((pl A B bits k : Nat) : Int) ≤ 9223372036854775807 := by omega
  exact IntWalk.wrap64_in _ h2
set_option maxRecDepth 100000 in
set_option maxHeartbeats 1000000 in
theorem places_go (key : ByteArray) (A B : Nat) (hA : A < 4294967296) (hB : B < 4294967296) (bits : Nat) (hb0 : 1 ≤ bits) (hb : bits ≤ 9000000000000000000)
    (HO : ∀ w, Calls Try.prog 18 #[.string key] w fun e w' => e = .returned (.int .u32 A) ∧ Below w.heap.size w w')
    (HD : ∀ w, Calls Try.prog 19 #[.int .u32 A, .string ⟨#[7]⟩] w fun e w' => e = .returned (.int .u32 B) ∧ Below w.heap.size w w') (w : World) :
    Calls Try.prog 13 #[.string key, .int .i64 bits] w fun e w' => e = .returned (.agg (pcs A B bits)) ∧ Below w.heap.size w w' := by
  have HO := Lib.hid HO
  have HD := Lib.hid HD
  go_enter Try.func13, Try.ntmps13
  go_wp2_with (first
    | (go_at_call 18; (with_reducible refine (HO.out _).mono ?_); rintro e w1 ⟨rfl, hb1⟩; have HB1 := Lib.hid hb1; clear hb1)
    | (go_at_call 19; (with_reducible refine (HD.out _).mono ?_); rintro e w2 ⟨rfl, hb2⟩; have HB2 := Lib.hid hb2; clear hb2))
  have HST : PlJ w A B bits (.int .i64 0) w2 := pl_start A B bits HB1.out HB2.out
  clear HB1 HB2
  go_loopw [17] (fun i wr => PlJ w A B bits i wr) (fun i _ => 6 - (intOf i).toNat)
  case atStart => exact HST
  case round =>
    have HR := Lib.hid hrel
    obtain ⟨k, hk, rfl, hbw, hz, h0, h1⟩ := hrel
    have H0 := Lib.hid h0
    have H1 := Lib.hid h1
    clear h0 h1
    by_cases h6 : k < 6
    · obtain ⟨hc, hf⟩ := H1.out k h6
      go_wp2
      go_roundw
      case rel => exact pl_next h6 (pl_eq A B bits k hb0 hb) HR.out
      case measure => simp [intOf]; omega
    · obtain rfl : k = 6 := by omega
      obtain ⟨a0, f0⟩ := H0.out 0 (by decide)
      obtain ⟨a1, f1⟩ := H0.out 1 (by decide)
      obtain ⟨a2, f2⟩ := H0.out 2 (by decide)
      obtain ⟨a3, f3⟩ := H0.out 3 (by decide)
      obtain ⟨a4, f4⟩ := H0.out 4 (by decide)
      obtain ⟨a5, f5⟩ := H0.out 5 (by decide)
      have b0 : wr.cell? ⟨w.heap.size + 1, 0, none⟩ = some (.int .i64 ((pl A B bits 0 : Nat) : Int)) := (H1.out 0 (by decide)).1
      have b1 : wr.cell? ⟨w.heap.size + 1, 1, none⟩ = some (.int .i64 ((pl A B bits 1 : Nat) : Int)) := (H1.out 1 (by decide)).1
      have b2 : wr.cell? ⟨w.heap.size + 1, 2, none⟩ = some (.int .i64 ((pl A B bits 2 : Nat) : Int)) := (H1.out 2 (by decide)).1
      have b3 : wr.cell? ⟨w.heap.size + 1, 3, none⟩ = some (.int .i64 ((pl A B bits 3 : Nat) : Int)) := (H1.out 3 (by decide)).1
      have b4 : wr.cell? ⟨w.heap.size + 1, 4, none⟩ = some (.int .i64 ((pl A B bits 4 : Nat) : Int)) := (H1.out 4 (by decide)).1
      have b5 : wr.cell? ⟨w.heap.size + 1, 5, none⟩ = some (.int .i64 ((pl A B bits 5 : Nat) : Int)) := (H1.out 5 (by decide)).1
      clear HST HR h6 hk
      go_wp2
      refine bodyPost_ret (v := .agg (pcs A B bits)) ?_ rfl ⟨rfl, ?_⟩
      · simp [results, Try.results13, go_sem, a0, a1, a2, a3, a4, a5, pcs, pv]
      · exact (((((hbw.setCell (Nat.le_refl _) _).setCell (Nat.le_refl _) _).setCell (Nat.le_refl _) _).setCell (Nat.le_refl _) _).setCell (Nat.le_refl _) _).setCell (Nat.le_refl _) _
def keyA (key : List UInt8) : Nat := Crc.ofL key
def keyB (key : List UInt8) : Nat := Crc.ofL (key ++ [7])
theorem keyA_lt (key : List UInt8) : keyA key < 4294967296 := Crc.ofL_lt _
theorem keyB_lt (key : List UInt8) : keyB key < 4294967296 := Crc.ofL_lt _
theorem plc_pl (key : List UInt8) (bits i : Nat) : plc key bits i = pl (keyA key) (keyB key) bits i := rfl
def pcsOf (key : List UInt8) (bits : Nat) : Array Value := pcs (keyA key) (keyB key) bits
theorem pcsOf_at (key : List UInt8) (bits i : Nat) (h : i < 6) : (pcsOf key bits)[i]? = some (.int .i64 ((plc key bits i : Nat) : Int)) := by
  match i, h with
  | 0, _ => rfl
  | 1, _ => rfl
  | 2, _ => rfl
  | 3, _ => rfl
  | 4, _ => rfl
  | 5, _ => rfl
theorem places_any (key : ByteArray) (hs : key.size ≤ maxLen) (bits : Nat) (hb0 : 1 ≤ bits) (hb : bits ≤ 9000000000000000000) (w : World) :
    Calls Try.prog 13 #[.string key, .int .i64 bits] w fun e w' => e = .returned (.agg (pcsOf key.data.toList bits)) ∧ Below w.heap.size w w' :=
  places_go key (keyA key.data.toList) (keyB key.data.toList) (keyA_lt _) (keyB_lt _) bits hb0 hb (fun w => Crc.of_any key hs w) (fun w => by
    have h := Crc.add_any (keyA key.data.toList) (keyA_lt _) ⟨#[7]⟩ (by decide) w
    have e : Crc.add (keyA key.data.toList) (⟨#[7]⟩ : ByteArray).data.toList = keyB key.data.toList := Crc.add_add 0 key.data.toList [7]
    rw [e] at h
    exact h) w
set_option maxRecDepth 100000 in
theorem places_none (key : ByteArray) (bits : Int) (hb : bits < 1) (w : World) :
    Calls Try.prog 13 #[.string key, .int .i64 bits] w fun e w' => e = .returned (.agg z6) ∧ Below w.heap.size w w' := by
  go_enter Try.func13, Try.ntmps13
  go_wp2
  refine bodyPost_ret (v := .agg z6) ?_ rfl ⟨rfl, ?_⟩
  · simp [results, Try.results13, go_sem, z6]
  · exact ((Below.refl _ w).alloc (Nat.le_refl _) _).alloc (by simp) _
end Go.Proofs.Ytmgfgododhplpaa.Bl
