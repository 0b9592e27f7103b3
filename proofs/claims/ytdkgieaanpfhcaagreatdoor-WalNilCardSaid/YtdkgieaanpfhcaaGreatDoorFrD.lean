/-
  The document's text that lays records, walked. Conditions: as each theorem states.
-/
import Derived.Test.YtdkgieaanpfhcaaGreatDoorFrC
namespace Go.Proofs.YtdkgieaanpfhcaaGreatDoor
open Go.RowKit
open Vi

/-- A record's bytes at a place, begun or not. -/
def layAt (p : Nat) (b : Bool) (r : List UInt8) : List UInt8 := List.replicate (gapOf p) 0 ++ layGo b (roomOf p) r
theorem lay_layAt (p : Nat) (r : List UInt8) : lay p r = layAt p false r := by unfold lay layAt; rfl
theorem gap_iff (p j : Nat) (hj : j ≤ gapOf p) : (512 - (p + j) % 512 < 7) ↔ j < gapOf p := by
  by_cases h : 512 - p % 512 < 7
  · rw [gap_few h] at hj ⊢; omega
  · rw [gap_many h] at hj ⊢; omega
theorem gap_room (p : Nat) : 512 - (p + gapOf p) % 512 = roomOf p + 7 := by
  by_cases h : 512 - p % 512 < 7
  · rw [gap_few h, room_few h]; omega
  · rw [gap_many h, room_many h]; omega
theorem next_block (p : Nat) : (p + gapOf p + 7 + roomOf p) % 512 = 0 := by have := gap_room p; omega
theorem gap_block {q : Nat} (h : q % 512 = 0) : gapOf q = 0 := gap_many (by omega)
theorem room_block {q : Nat} (h : q % 512 = 0) : roomOf q = 505 := by rw [room_many (by omega)]; omega
theorem layAt_last {p : Nat} {b : Bool} {r : List UInt8} (h : r.length ≤ roomOf p) : layAt p b r = List.replicate (gapOf p) 0 ++ pce (kindOf b true) r := by
  unfold layAt; rw [layGo_last h]
theorem layAt_more {p : Nat} {b : Bool} {r : List UInt8} (h : roomOf p < r.length) :
    layAt p b r = List.replicate (gapOf p) 0 ++ pce (kindOf b false) (r.take (roomOf p)) ++ layAt (p + (List.replicate (gapOf p) (0 : UInt8) ++ pce (kindOf b false) (r.take (roomOf p))).length) true (r.drop (roomOf p)) := by
  have e : (p + (List.replicate (gapOf p) (0 : UInt8) ++ pce (kindOf b false) (r.take (roomOf p))).length) % 512 = 0 := by
    rw [List.length_append, List.length_replicate, pce_len, List.length_take, Nat.min_eq_left (by omega)]
    have := next_block p; rw [show p + (gapOf p + (7 + roomOf p)) = p + gapOf p + 7 + roomOf p by omega]; exact this
  rw [layAt, layGo_more h, layAt, gap_block e, room_block e]; simp

theorem refRoom_any (p : Nat) (hp : p ≤ 4611686018427387904) (w : World) :
    Calls Tryz.prog 43 #[.int .i64 p] w fun e w' => e = .returned (.int .i64 ((512 - p % 512 : Nat) : Int)) ∧ w = w' := by
  go_enter Tryz.func43, Tryz.ntmps43
  go_wp2
  go_ret
  exact ⟨ret_int (by omega), rfl⟩
theorem refOf_bs (l : List UInt8) (hs : (bs l).size ≤ maxLen) (w : World) :
    Calls Tryz.prog 86 #[.string (bs l)] w fun e w' => e = .returned (.int .u32 (Crc.ofL l)) ∧ w = w' := Crc.refOf_any (bs l) hs w
theorem refSum_any (k : Nat) (hk : k < 256) (s : List UInt8) (hs : s.length ≤ 65535) (w : World) :
    Calls Tryz.prog 44 #[.int .u8 k, .string (bs s)] w fun e w' => e = .returned (.string (bs (little 4 (Crc.mask (Crc.ofL (UInt8.ofNat k :: s)))))) ∧ Below w.heap.size w w' := by
  have hbz := bs_size
  have hba := bs_append
  have hob := one_byte
  have hms := Lib.hid (summed_len k s hs)
  have hml : Crc.mask (Crc.ofL (UInt8.ofNat k :: s)) < 18446744073709551616 := Nat.lt_trans (Crc.mask_lt _) (by decide)
  have hml2 := Crc.mask_lt (Crc.ofL (UInt8.ofNat k :: s))
  go_enter Tryz.func44, Tryz.ntmps44
  go_wp2_with (first
    | (go_at_call 86; refine (refOf_bs _ hms.out _).mono ?_; rintro e w1 ⟨rfl, rfl⟩)
    | (go_at_call 85; refine (Crc.refMask_any _ (Crc.ofL_lt _) _).mono ?_; rintro e w2 ⟨rfl, rfl⟩)
    | (go_at_call 84; refine (refLittle_any _ 4 hml (by decide) _).mono ?_; rintro e w3 ⟨rfl, hb2⟩))
  go_ret
  exact ⟨rfl, ((Below.refl _ _).alloc (Nat.le_refl _) _).trans (hb2.mono (by simp))⟩
theorem rp_snoc (l : List UInt8) (j : Nat) : l ++ List.replicate j (0 : UInt8) ++ [0] = l ++ List.replicate (j + 1) 0 := by
  rw [List.append_assoc, List.replicate_succ']
theorem refRoom_at {x : Int} {p : Nat} (hx : x = p) (hp : p ≤ 4611686018427387904) (w : World) :
    Calls Tryz.prog 43 #[.int .i64 x] w fun e w' => e = .returned (.int .i64 ((512 - p % 512 : Nat) : Int)) ∧ w = w' := by
  subst hx; exact refRoom_any p hp w
theorem refRoom_gap (q : Nat) (hp : q ≤ 4611686018427387000) {x : Int} (hx : x = (q + gapOf q : Nat)) (w : World) :
    Calls Tryz.prog 43 #[.int .i64 x] w fun e w' => e = .returned (.int .i64 ((roomOf q : Int) + 7)) ∧ w = w' := by
  have hg := gapOf_le q
  refine (refRoom_at hx (by omega) w).mono ?_
  rintro e w' ⟨he, hw⟩
  refine ⟨he.trans (ret_int ?_), hw⟩
  rw [gap_room]; omega
theorem refSum_at (k : Nat) (hk : k < 256) (s : List UInt8) (hs : s.length ≤ 65535) {x : Int} (hx : x = k) (w : World) :
    Calls Tryz.prog 44 #[.int .u8 x, .string (bs s)] w fun e w' => e = .returned (.string (bs (little 4 (Crc.mask (Crc.ofL (UInt8.ofNat k :: s)))))) ∧ Below w.heap.size w w' := by
  subst hx; exact refSum_any k hk s hs w
theorem keptA {W w' : World} {o : Obj} (h : Below (W.alloc o).heap.size (W.alloc o) w') : w'.heap[W.heap.size]? = some o := (h.block _ (by simp)).trans (heap_alloc_last W o)
theorem conv_cells (W : World) (g : Nat) (c : Int) (h : W.heap[g]? = some (.cells #[.int .u8 c] 5)) : (convert 88 9 (.slice (some ⟨g, 0, none⟩) 1 1)).run Tryz.prog W = .ok (.string (bs [UInt8.ofNat c.toNat])) W := by
  rw [run_convert_bytes_string _ _ _ 5 _ _ _ Tryz.underlying88 Tryz.underlying5 Tryz.underlying9]
  have hl := run_loadCells_list (P := Tryz.prog) W ⟨g, 0, none⟩ ([c].map (Value.int .u8)) (fun j v hj => by
    match j, hj with
    | 0, hj => simp at hj; subst hj; simp [Addr.add, World.cell?, h])
  rw [run_bytesToString _ _ 1 1 [c] hl]
  rfl
theorem below_one {w W X w' : World} (hb : Below w.heap.size w W) (h : Below X.heap.size X w') (hX : X.heap = W.heap) (h1 : X.os = W.os) (h2 : X.tape = W.tape) (h3 : X.output = W.output) : Below w.heap.size w w' :=
  hb.trans ⟨h.os.trans h1, h.tape.trans h2, h.output.trans h3, by have := h.size; rw [hX] at this; exact this, fun k hk => by
    have := h.block k (by rw [hX]; have := hb.size; omega)
    rw [hX] at this; exact this⟩
end Go.Proofs.YtdkgieaanpfhcaaGreatDoor
