/-
  A memo that is none: the Go text walked. Conditions: as each theorem states.
-/
import Derived.Test.YtadejeoiffaimaaDoorMeG
import Derived.Test.YtadejeoiffaimaaDoorSkN
namespace Go.Proofs.YtadejeoiffaimaaDoor.Me
open Go.RowKit Go.Shelf
open Vi
open Go.Proofs.YtadejeoiffaimaaDoor.Rf
open Go.Proofs.YtadejeoiffaimaaDoor.Sk (feet Lst Moves Only encP SkAt pairs TnL KpL CapL)

attribute [local go_sem] Oper.semAt_some

theorem add_nil {w : World} (a b c d h : Value) :
    Calls Tryd.prog 8 #[.pointer none, .agg #[a, b, c, d], h] w fun r w' => r = .returned (.int .i64 1) ∧ Below w.heap.size w w' := by
  go_enter Tryd.func8, Tryd.ntmps8
  go_wp2
  go_ret
  exact ⟨rfl, (Below.refl _ w).alloc (Nat.le_refl _) _⟩
theorem pairs_nil (w : World) : Calls Tryd.prog 29 #[.pointer none] w fun e w' => e = .returned (.pointer none) ∧ w = w' := by
  go_enter Tryd.func29, Tryd.ntmps29
  go_wp2
  go_ret
  exact ⟨rfl, rfl⟩
theorem len_nil (w : World) : Calls Tryd.prog 12 #[.pointer none] w fun e w' => e = .returned (.int .i64 0) ∧ w = w' := by
  go_enter Tryd.func12, Tryd.ntmps12
  go_wp2_with (first
    | (go_at_call 29; (with_reducible refine (pairs_nil _).mono ?_); rintro e w1 ⟨rfl, rfl⟩)
    | (go_at_call 30; (with_reducible refine (Sk.len_nil _).mono ?_); rintro e w1 ⟨rfl, rfl⟩))
  go_ret
  exact ⟨rfl, rfl⟩
theorem bytes_nil (w : World) : Calls Tryd.prog 13 #[.pointer none] w fun e w' => e = .returned (.int .i64 0) ∧ w = w' := by
  go_enter Tryd.func13, Tryd.ntmps13
  go_wp2
  go_ret
  exact ⟨rfl, rfl⟩
set_option maxRecDepth 100000 in
set_option maxHeartbeats 2000000 in
theorem mfrom_nil {w : World} (q : En) (hq : q.wf) (hk : q.key.size ≤ 1000000) (m : Int) (hm : w.cell? ⟨0, 0, none⟩ = some (.int .i64 m)) :
    Calls Tryd.prog 23 #[.pointer none, .agg #[.string q.key, .int .u64 q.seq, .int .i64 q.kind, .string q.val]] w (FromPost w 55 none (plc q)) := by
  have HQ := Lib.hid hq
  have HK := Lib.hid hk
  have hb0 : Below w.heap.size w (w.alloc (.cells #[.string q.key, .int .u64 q.seq, .int .i64 q.kind, .string q.val] 30)) := (Below.refl _ w).alloc (Nat.le_refl _) _
  have HG : Hid ((w.alloc (.cells #[.string q.key, .int .u64 q.seq, .int .i64 q.kind, .string q.val] 30)).drew.cell? ⟨0, 0, none⟩ = some (.int .i64 m)) := cell_alloc0 hm _
  have X0 : Hid ((w.alloc (.cells #[.string q.key, .int .u64 q.seq, .int .i64 q.kind, .string q.val] 30)).drew.heap[w.heap.size]? = some (.cells #[.string q.key, .int .u64 q.seq, .int .i64 q.kind, .string q.val] 30 (0, 0))) := heap_alloc_new w _
  have B0 := Lib.hid (hb0.trans (below_drew _))
  have hinf := ent_info
  obtain ⟨k0, k1, k2, k3⟩ := box4 X0.out
  clear hm hq hk hb0
  go_enter Tryd.func23, Tryd.ntmps23
  go_wp2
  go_region_held3 (fun wx => wx.cell? ⟨w.heap.size, 0, none⟩ = some (.string q.key) ∧ wx.cell? ⟨w.heap.size, 1, none⟩ = some (.int .u64 q.seq) ∧ wx.cell? ⟨w.heap.size, 2, none⟩ = some (.int .i64 q.kind) ∧ wx.cell? ⟨w.heap.size, 3, none⟩ = some (.string q.val))
    (first | exact ⟨k0, k1, k2, k3⟩ | exact box4 X2.out | exact box4 (three_old X2.out _ _ _) | exact box4 (old_alloc (old_alloc X2.out _) _))
    (first
      | (go_at_call 29; refine (pairs_nil _).mono ?_; rintro r w1 ⟨rfl, rfl⟩)
      | (go_at_call 21; refine (place_any q HQ.out HK.out m HG.out).mono ?_; rintro r w2 ⟨rfl, b2⟩; have X2 := Lib.hid (keep_b X0.out b2); have B2 := Lib.hid (B0.out.trans (b2.mono B0.out.size)); clear b2)
      | (go_at_call 41; refine (Sk.from_nil _ (plc q)).mono ?_; rintro r w3 ⟨rfl, rfl⟩)
      | (go_at_call 32; refine (entries_any _ _ _).mono ?_; rintro r w4 ⟨rfl, rfl⟩))
  all_goals
    go_wp2
    go_ret
    exact ⟨w2.heap.size, rfl, B2.out.size, acap_three w2 _ _ (plc q), B2.out.trans ((three_below _ _ _).mono B2.out.size)⟩
/-- what no memo gives -/
theorem nseq (n : Nat) (hn : 3 ≤ n) (gf : Nat) (hgf : gf = 55 ∨ gf = 48) {w : World} {bl : Nat} {k : ByteArray} {m : Int} (hc : ACap w gf bl none k) (hm : w.cell? ⟨0, 0, none⟩ = some (.int .i64 m)) (S : List Nat) (hS : ∀ j ∈ S, j < w.heap.size) (h0 : 0 ∉ S) :
    SeqT Fence.wide n Tryd.prog 46 #[.pointer (some ⟨bl + 2, 0, none⟩)] encE (fun _ _ => False) (KeepsC S w.heap.size) [] w := by
  have hin := Sk.none_seq gf hgf (n - 1) (bk := bl + 1) hc.hl
  exact entries_seq n hn hc.hp (by rcases hgf with rfl | rfl; exact enters_of Tryd.func55 (by kernel_rfl) rfl; exact enters_of Tryd.func48 (by kernel_rfl) rfl) (LE := []) hin (fp := []) (fun j hj => by cases hj) (fun A B ht => ht.elim) (fun _ _ => trivial)
    (fun _ _ _ _ _ _ _ _ => trivial) (fun _ _ _ => trivial) hS (fun hm => by cases hm) h0 hm (fun x hx => by cases hx)
end Go.Proofs.YtadejeoiffaimaaDoor.Me
