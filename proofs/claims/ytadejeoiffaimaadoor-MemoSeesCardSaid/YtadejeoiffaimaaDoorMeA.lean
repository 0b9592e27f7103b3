/-
  An entry's place among keys, and back: the Go text of memo, walked. Conditions: as each theorem states.
-/
import Derived.Test.YtadejeoiffaimaaDoorMeMath
import Derived.Test.YtadejeoiffaimaaDoorMeKy
namespace Go.Proofs.YtadejeoiffaimaaDoor.Me
open Go.RowKit
open Vi

theorem box4 {W : World} {g : Nat} {a b c d : Value} {t : TypeId} (h : W.heap[g]? = some (.cells #[a, b, c, d] t (0, 0))) :
    W.cell? ⟨g, 0, none⟩ = some a ∧ W.cell? ⟨g, 1, none⟩ = some b ∧ W.cell? ⟨g, 2, none⟩ = some c ∧ W.cell? ⟨g, 3, none⟩ = some d := ⟨cell_in h 0 _ rfl, cell_in h 1 _ rfl, cell_in h 2 _ rfl, cell_in h 3 _ rfl⟩
theorem below_drew {B : Nat} (W : World) : Below B W W.drew := (Below.refl B W).drew
theorem cut_run {k : ByteArray} {N : Nat} (h : (N : Int) = min (k.size : Int) 86) (W : World) :
    (Instr.slice 9 (.string k) none (some (.int .i64 (N : Int))) none).run Tryd.prog W = .ok (.string (cut86 k)) W := by
  rw [run_slice_string_h W 9 k Tryd.underlying9 .i64 (N : Int) (by omega) (by omega)]
  congr 2
  apply data_inj
  rw [Lib.extract_data, Int.toNat_natCast, List.drop_zero, Nat.sub_zero]
  unfold cut86
  rw [bs_toList]
  rcases Nat.le_total k.size 86 with hle | hle
  · rw [List.take_of_length_le (by rw [size_len]; omega), List.take_of_length_le (by rw [size_len]; omega)]
  · rw [show N = 86 by omega]
theorem old_alloc {W : World} {g : Nat} {o : Obj} (h : W.heap[g]? = some o) (o' : Obj) : (W.alloc o').heap[g]? = some o := (Below.heap_alloc _ _ _ (Array.getElem?_eq_some_iff.1 h).1).trans h
theorem keep_b {W W' : World} {g : Nat} {o : Obj} (h : W.heap[g]? = some o) (b : Below W.heap.size W W') : W'.heap[g]? = some o := (b.block _ (Array.getElem?_eq_some_iff.1 h).1).trans h
theorem keep_d2 {W W' : World} {g : Nat} {o : Obj} (h : W.heap[g]? = some o) (b : Below W.drew.drew.heap.size W.drew.drew W') : W'.heap[g]? = some o := (b.block _ (Array.getElem?_eq_some_iff.1 h).1).trans h
theorem low_d2 {W W' : World} (b : Below W.drew.drew.heap.size W.drew.drew W') : Below W.heap.size W W' := ⟨b.os, b.tape, b.output, b.size, b.block⟩
theorem prow3 {W : World} {g : Nat} {p q r : KPart} {t : TypeId} (h : W.heap[g]? = some (.cells #[.int .u8 p.sort, .int .i64 p.n, .int .u64 p.u, .string p.s, .int .u8 q.sort, .int .i64 q.n, .int .u64 q.u, .string q.s, .int .u8 r.sort, .int .i64 r.n, .int .u64 r.u, .string r.s] t (0, 0))) :
    PRow W (some ⟨g, 0, none⟩) [p, q, r] := fun _ => by
  refine ⟨_, rfl, (Array.getElem?_eq_some_iff.1 h).1, fun i hi => ?_⟩
  rw [add_flat]
  match i, hi with
  | 0, _ => exact ⟨cell_in h 0 _ rfl, cell_in h 1 _ rfl, cell_in h 2 _ rfl, cell_in h 3 _ rfl⟩
  | 1, _ => exact ⟨cell_in h 4 _ rfl, cell_in h 5 _ rfl, cell_in h 6 _ rfl, cell_in h 7 _ rfl⟩
  | 2, _ => exact ⟨cell_in h 8 _ rfl, cell_in h 9 _ rfl, cell_in h 10 _ rfl, cell_in h 11 _ rfl⟩
theorem make_row {w : World} (e : En) (he : e.wf) {g c : Nat} {t : TypeId} (m : Int) (hm : w.cell? ⟨0, 0, none⟩ = some (.int .i64 m))
    (h : w.heap[g]? = some (.cells #[.int .u8 116, .int .i64 0, .int .u64 0, .string (cut86 e.key), .int .u8 100, .int .i64 (min e.seq 72057594037927936 : Nat), .int .u64 0, .string ⟨#[]⟩, .int .u8 100, .int .i64 e.kind, .int .u64 0, .string ⟨#[]⟩] t (0, 0))) :
    Calls Tryd.prog 35 #[.slice (some ⟨g, 0, none⟩) 3 c] w fun x w' => x = .returned (.tuple #[.string (plc e), .int .i64 0]) ∧ Below w.heap.size w w' := by
  have hcut := cut_size e.key
  have := make_any (some ⟨g, 0, none⟩) c (row e) (by simp [row]) (prow3 h) (fun p hp => ⟨row_ok he p hp, by
    simp only [row, List.mem_cons, List.not_mem_nil, or_false] at hp
    rcases hp with rfl | rfl | rfl
    · show (cut86 e.key).size ≤ _; omega
    · show (0 : Nat) ≤ _; omega
    · show (0 : Nat) ≤ _; omega⟩) m hm
  rw [mk_row] at this
  exact this
set_option maxRecDepth 100000 in
set_option maxHeartbeats 2000000 in
theorem place_any {w : World} (e : En) (he : e.wf) (hk : e.key.size ≤ 1000000) (m : Int) (hm : w.cell? ⟨0, 0, none⟩ = some (.int .i64 m)) :
    Calls Tryd.prog 21 #[.agg #[.string e.key, .int .u64 e.seq, .int .i64 e.kind, .string e.val]] w fun x w' => x = .returned (.string (plc e)) ∧ Below w.heap.size w w' := by
  have HM := Lib.hid hm
  have HE := Lib.hid he
  have hct := cut_size e.key
  obtain ⟨N, hN⟩ : ∃ N : Nat, min (e.key.size : Int) 86 = (N : Int) := ⟨min e.key.size 86, by omega⟩
  obtain ⟨M, hM, hM2⟩ : ∃ M : Nat, min (e.seq : Int) 72057594037927936 = (M : Int) ∧ M = min e.seq 72057594037927936 := ⟨min e.seq 72057594037927936, by omega, rfl⟩
  have hwr : IntKind.i64.wrap (M : Int) = (M : Int) := IntWalk.i64_in _ (by omega)
  have hsl := cut_run hN.symm
  have HCT : Hid ((cut86 e.key).size ≤ 281474976710656) := by rw [Hid]; omega
  have HM2 := Lib.hid hM2
  clear hm he hct hM2
  have X0 : Hid ((w.alloc (.cells #[.string e.key, .int .u64 e.seq, .int .i64 e.kind, .string e.val] 30)).heap[w.heap.size]? = some (.cells #[.string e.key, .int .u64 e.seq, .int .i64 e.kind, .string e.val] 30 (0, 0))) := heap_alloc_new w _
  have XM := Lib.hid (cell_alloc0 HM.out (.cells #[.string e.key, .int .u64 e.seq, .int .i64 e.kind, .string e.val] 30))
  have XB : Hid (Below w.heap.size w (w.alloc (.cells #[.string e.key, .int .u64 e.seq, .int .i64 e.kind, .string e.val] 30))) := (Below.refl _ w).alloc (Nat.le_refl _) _
  obtain ⟨k0, k1, k2, k3⟩ := box4 X0.out
  go_enter Tryd.func21, Tryd.ntmps21
  go_wp2
  go_region_held3 (fun wx => wx.cell? ⟨w.heap.size, 0, none⟩ = some (.string e.key) ∧ wx.cell? ⟨w.heap.size, 1, none⟩ = some (.int .u64 e.seq)) (exact ⟨k0, k1⟩) (fail)
  all_goals go_wp2
  all_goals
    go_region_held3 (fun wx => wx.cell? ⟨w.heap.size, 2, none⟩ = some (.int .i64 e.kind))
      (first | exact k2 | exact (box4 X1.out).2.2.1 | exact (box4 X2.out).2.2.1 | exact (box4 X3.out).2.2.1 | exact (box4 (old_alloc X3.out _)).2.2.1 | exact (box4 X5.out).2.2.1)
      (first
        | (go_at_call 36; (with_reducible refine (ktext_any (cut86 e.key) HCT.out _).mono ?_); rintro x w1 ⟨rfl, b1⟩; replace b1 := low_d2 b1; have X1 := Lib.hid (keep_b X0.out b1); have M1 := Lib.hid (cell0_below XM.out b1); have B1 := Lib.hid (XB.out.trans (b1.mono XB.out.size)); clear b1)
        | (go_at_call 37; have Z := X2; (with_reducible refine (down_any e.kind _).mono ?_); rintro x w3 ⟨rfl, b3⟩; have X3 := Lib.hid (keep_b X2.out b3); have M3 := Lib.hid (cell0_below M2.out b3); have B3 := Lib.hid (B2.out.trans (b3.mono B2.out.size)); clear b3)
        | (go_at_call 37; have Z := X1; (with_reducible refine (down_any (M : Int) _).mono ?_); rintro x w2 ⟨rfl, b2⟩; have X2 := Lib.hid (keep_b X1.out b2); have M2 := Lib.hid (cell0_below M1.out b2); have B2 := Lib.hid (B1.out.trans (b2.mono B1.out.size)); clear b2)
        | (go_at_call 35; refine (make_row e HE.out m (cell_alloc0 M3.out _) (by rw [← HM2.out]; exact heap_alloc_new w3 _)).mono ?_; rintro x w5 ⟨rfl, b5⟩; have X5 := Lib.hid (keep_b (old_alloc X3.out _) b5); have B5 := Lib.hid ((B3.out.alloc B3.out.size _).trans (b5.mono (by have := B3.out.size; simp; omega))); clear b5))
  all_goals
    go_wp2
    go_ret
    exact ⟨rfl, B5.out⟩
end Go.Proofs.YtadejeoiffaimaaDoor.Me
