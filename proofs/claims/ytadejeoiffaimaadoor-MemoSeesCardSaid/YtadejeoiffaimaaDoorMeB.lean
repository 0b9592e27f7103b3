/-
  An entry out of a pair; whether an entry may be; the least ones: the Go text of memo, walked. Conditions: as each theorem states.
-/
import Derived.Test.YtadejeoiffaimaaDoorMeA
import Derived.Test.YtadejeoiffaimaaDoorSkN
namespace Go.Proofs.YtadejeoiffaimaaDoor.Me
open Go.RowKit
open Vi

theorem cell_sets {W : World} {b : Nat} {x y z u : Value} {p : Addr} {v : Value} (hp : p.block ≠ b) (h : W.cell? p = some v) : ((((W.setCell ⟨b, 0, none⟩ x).setCell ⟨b, 1, none⟩ y).setCell ⟨b, 2, none⟩ z).setCell ⟨b, 3, none⟩ u).cell? p = some v := by
  have hn : ∀ j, p ≠ ⟨b, j, none⟩ := fun j e => hp (by rw [e])
  rw [World.cell?_setCell_other _ _ _ _ (hn 3).symm, World.cell?_setCell_other _ _ _ _ (hn 2).symm, World.cell?_setCell_other _ _ _ _ (hn 1).symm, World.cell?_setCell_other _ _ _ _ (hn 0).symm, h]
theorem ent_info : (Tryd.prog.info? 30).map (·.size) = some 4 := by kernel_rfl
theorem row_cells {e : En} (he : e.good) : (row e).flatMap KPart.cells = [.int .u8 116, .int .i64 0, .int .u64 0, .string e.key, .int .u8 100, .int .i64 e.seq, .int .u64 0, .string ⟨#[]⟩, .int .u8 100, .int .i64 e.kind, .int .u64 0, .string ⟨#[]⟩] := by
  rw [row_good he]; rfl
theorem parts_good {w : World} (e : En) (he : e.good) (m : Int) (hm : w.cell? ⟨0, 0, none⟩ = some (.int .i64 m)) :
    Calls Tryd.prog 56 #[.string (plc e)] w fun r w' => ∃ g c, r = .returned (.tuple #[.slice (some ⟨g, 0, none⟩) 3 c, .int .i64 0]) ∧ w.heap.size ≤ g ∧
      (w'.cell? ⟨g, 3, none⟩ = some (.string e.key) ∧ w'.cell? ⟨g, 5, none⟩ = some (.int .i64 e.seq) ∧ w'.cell? ⟨g, 9, none⟩ = some (.int .i64 e.kind)) ∧ Below w.heap.size w w' := by
  have hp := parts_row he.wf
  have hl := kb_len e
  refine (parts_any (kbytes (row e)) (by omega) m hm).mono ?_
  rintro r w' ⟨⟨v, a, rfl, h1, h2, h3⟩ | ⟨_, h1⟩, b⟩
  · rw [hp] at h2
    obtain rfl := Option.some.inj h2
    obtain ⟨g, c, rfl, hg, _, hc⟩ := Sk.rowCells h3 (by simp [row])
    rw [row_cells he] at hc
    exact ⟨g, c, rfl, hg, ⟨hc 3 _ rfl, hc 5 _ rfl, hc 9 _ rfl⟩, b⟩
  · rcases h1 with h1 | h1
    · omega
    · rw [hp] at h1; cases h1
set_option maxRecDepth 100000 in
set_option maxHeartbeats 2000000 in
theorem entry_any {w : World} (e : En) (he : e.good) (x : ByteArray) (m : Int) (hm : w.cell? ⟨0, 0, none⟩ = some (.int .i64 m)) :
    Calls Tryd.prog 47 #[.string (plc e), .string x] w fun r w' => r = .returned (.agg #[.string e.key, .int .u64 e.seq, .int .i64 e.kind, .string x]) ∧ Below w.heap.size w w' := by
  have HM := Lib.hid (cell_alloc0 hm (.cells #[.string ⟨#[]⟩, .int .u64 0, .int .i64 0, .string ⟨#[]⟩] 30))
  have hwr : IntKind.u64.wrap (e.seq : Int) = (e.seq : Int) := IntWalk.u64_in _ (by have := he.sq; omega)
  have X0 : Hid ((w.alloc (.cells #[.string ⟨#[]⟩, .int .u64 0, .int .i64 0, .string ⟨#[]⟩] 30)).heap[w.heap.size]? = some (.cells #[.string ⟨#[]⟩, .int .u64 0, .int .i64 0, .string ⟨#[]⟩] 30 (0, 0))) := heap_alloc_new w _
  have HE := Lib.hid he
  clear hm he
  go_enter Tryd.func47, Tryd.ntmps47
  go_wp2_with (go_at_call 56; refine (parts_good e HE.out m HM.out).mono ?_; rintro r w1 ⟨g, c, rfl, hg, hc, b1⟩; have HC := Lib.hid hc; have X1 := Lib.hid (keep_b X0.out b1); have HG := Lib.hid hg; have B1 := Lib.hid (((Below.refl _ w).alloc (Nat.le_refl _) _).trans (b1.mono (by simp))); obtain ⟨c3, c5, c9⟩ := hc; clear b1 hg)
  obtain ⟨k0, k1, k2, k3⟩ := box4 X1.out
  have f0 := free_in X1.out 0
  have f1 := free_in X1.out 1
  have f2 := free_in X1.out 2
  have f3 := free_in X1.out 3
  have hgn : g ≠ w.heap.size := by have := HG.out; simp at this; omega
  go_region_held3 (fun wx => wx.cell? ⟨g, 3, none⟩ = some (.string e.key) ∧ wx.cell? ⟨g, 5, none⟩ = some (.int .i64 e.seq) ∧ wx.cell? ⟨g, 9, none⟩ = some (.int .i64 e.kind)) (first | exact ⟨c3, c5, c9⟩ | exact ⟨cell_sets hgn c3, cell_sets hgn c5, cell_sets hgn c9⟩) (fail)
  all_goals
    go_wp2
    have r0 : ((((w1.setCell ⟨w.heap.size, 0, none⟩ (.string e.key)).setCell ⟨w.heap.size, 1, none⟩ (.int .u64 e.seq)).setCell ⟨w.heap.size, 2, none⟩ (.int .i64 e.kind)).setCell ⟨w.heap.size, 3, none⟩ (.string x)).heap[w.heap.size]? = some (.cells #[.string e.key, .int .u64 e.seq, .int .i64 e.kind, .string x] 30 (0, 0)) := heap_set (heap_set (heap_set (heap_set X1.out 0 _) 1 _) 2 _) 3 _
    exact bodyPost_ret (results_cell_row rfl _ _ w.heap.size 30 _ (0, 0) _ rfl r0 Tryd.underlying30 rfl ent_info) rfl ⟨rfl, ((((B1.out.setCell (Nat.le_refl _) _).setCell (Nat.le_refl _) _).setCell (Nat.le_refl _) _).setCell (Nat.le_refl _) _).drew⟩
/-! whether an entry may be -/
theorem key_some {k : ByteArray} (h : 1 ≤ k.size) : ¬ k.toList = [] ∧ k.toList.isEmpty = false := by
  have hl : k.toList = k.data.toList := ByteArray.toList_mk k.data.toList
  have hn : ¬ k.toList = [] := fun e => by
    have := size_len k
    rw [← hl, e] at this
    simp at this; omega
  exact ⟨hn, by cases hk : k.toList with
    | nil => exact absurd hk hn
    | cons => rfl⟩
theorem check_good {w : World} (e : En) (he : e.good) :
    Calls Tryd.prog 20 #[.agg #[.string e.key, .int .u64 e.seq, .int .i64 e.kind, .string e.val]] w fun r w' => r = .returned (.int .i64 0) ∧ Below w.heap.size w w' := by
  obtain ⟨kd, hkd⟩ : ∃ kd, e.kind = kd := ⟨_, rfl⟩
  obtain ⟨h1, h2, h3, h4⟩ := he
  rw [hkd] at h3 ⊢
  obtain ⟨n1, n2⟩ := key_some h1
  have h5 : ¬ (85 < (e.key.size : Int)) := by omega
  have h6 : ¬ (72057594037927935 < (e.seq : Int)) := by omega
  obtain ⟨k0, k1, k2, k3⟩ := box4 (heap_alloc_new w (.cells #[.string e.key, .int .u64 e.seq, .int .i64 kd, .string e.val] 30))
  clear hkd
  rcases h3 with rfl | rfl
  · go_enter Tryd.func20, Tryd.ntmps20
    go_wp2
    go_ret
    exact ⟨rfl, (Below.refl _ w).alloc (Nat.le_refl _) _⟩
  · go_enter Tryd.func20, Tryd.ntmps20
    go_wp2
    go_ret
    exact ⟨rfl, (Below.refl _ w).alloc (Nat.le_refl _) _⟩
/-! the least ones -/
set_option maxRecDepth 100000 in
set_option maxHeartbeats 2000000 in
theorem least_any (w : World) (key : ByteArray) (at_ : Nat) (hk : Hid (key.size ≤ 281474976710656)) :
    Calls Tryd.prog 10 #[.string key, .int .u64 at_] w fun r w' => r = .returned (.agg #[.string key, .int .u64 at_, .int .i64 255, .string ⟨#[]⟩]) ∧ Below w.heap.size w w' := by
  have X0 : Hid ((w.alloc (.cells #[.string ⟨#[]⟩, .int .u64 0, .int .i64 0, .string ⟨#[]⟩] 30)).heap[w.heap.size]? = some (.cells #[.string ⟨#[]⟩, .int .u64 0, .int .i64 0, .string ⟨#[]⟩] 30 (0, 0))) := heap_alloc_new w _
  go_enter Tryd.func10, Tryd.ntmps10
  go_wp2_with (go_at_call 24; with_reducible refine (clone_any key _ hk).mono ?_; rintro r w1 ⟨rfl, b1⟩; have X1 := Lib.hid (keep_b X0.out b1); have B1 := Lib.hid (((Below.refl _ w).alloc (Nat.le_refl _) _).trans (b1.mono (by simp))); obtain ⟨k0, k1, k2, k3⟩ := box4 X1.out; have f0 := free_in X1.out 0; have f1 := free_in X1.out 1; have f2 := free_in X1.out 2; have f3 := free_in X1.out 3; clear b1)
  have r0 : ((((w1.setCell ⟨w.heap.size, 0, none⟩ (.string key)).setCell ⟨w.heap.size, 1, none⟩ (.int .u64 at_)).setCell ⟨w.heap.size, 2, none⟩ (.int .i64 255)).setCell ⟨w.heap.size, 3, none⟩ (.string ⟨#[]⟩)).heap[w.heap.size]? = some (.cells #[.string key, .int .u64 at_, .int .i64 255, .string ⟨#[]⟩] 30 (0, 0)) := heap_set (heap_set (heap_set (heap_set X1.out 0 _) 1 _) 2 _) 3 _
  exact bodyPost_ret (results_cell_row rfl _ _ w.heap.size 30 _ (0, 0) _ rfl r0 Tryd.underlying30 rfl ent_info) rfl ⟨rfl, (((B1.out.setCell (Nat.le_refl _) _).setCell (Nat.le_refl _) _).setCell (Nat.le_refl _) _).setCell (Nat.le_refl _) _⟩
end Go.Proofs.YtadejeoiffaimaaDoor.Me
