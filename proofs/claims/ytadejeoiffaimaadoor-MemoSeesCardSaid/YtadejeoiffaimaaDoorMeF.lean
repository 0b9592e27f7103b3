/-
  The entries from one on, asked of a memo; what they give within a loop. Conditions: as each theorem states.
-/
import Derived.Test.YtadejeoiffaimaaDoorMeE
namespace Go.Proofs.YtadejeoiffaimaaDoor.Me
open Go.RowKit Go.Shelf
open Vi
open Go.Proofs.YtadejeoiffaimaaDoor.Rf
open Go.Proofs.YtadejeoiffaimaaDoor.Sk (feet Lst Moves Only encP SkAt pairs TnL KpL CapL)

attribute [local go_sem] Oper.semAt_some

/-- what an iterator over a memo has captured -/
structure ACap (w : World) (gf bl : Nat) (p : Option Addr) (k : ByteArray) : Prop where
  hl : w.heap[bl]? = some (.cells #[.pointer p] 44 (0, 0))
  hk : w.heap[bl + 1]? = some (.cells #[.string k] 9 (0, 0))
  hp : w.heap[bl + 2]? = some (.cells #[.func (.func gf) #[] #[.pointer (some ⟨bl, 0, none⟩), .pointer (some ⟨bl + 1, 0, none⟩)]] 59 (0, 0))
theorem ACap.below {w w' : World} {gf bl : Nat} {p : Option Addr} {k : ByteArray} (h : ACap w gf bl p k) (hb : Below w.heap.size w w') : ACap w' gf bl p k :=
  ⟨keep_b h.hl hb, keep_b h.hk hb, keep_b h.hp hb⟩
theorem ACap.lt {w : World} {gf bl : Nat} {p : Option Addr} {k : ByteArray} (h : ACap w gf bl p k) : bl + 2 < w.heap.size := (Array.getElem?_eq_some_iff.1 h.hp).1
theorem entries_any (w : World) (gf : Nat) (lb : Array Value) : Calls Tryd.prog 32 #[.func (.func gf) #[] lb] w fun e w' => e = .returned (.func (.func 46) #[] #[.pointer (some ⟨w.heap.size, 0, none⟩)]) ∧ w' = w.alloc (.cells #[.func (.func gf) #[] lb] 59) := by
  go_enter Tryd.func32, Tryd.ntmps32
  go_wp2
  go_ret
  exact ⟨rfl, rfl⟩
def FromPost (w : World) (gf : Nat) (p : Option Addr) (k : ByteArray) (r : Ending) (w' : World) : Prop :=
  ∃ bl, r = .returned (.func (.func 46) #[] #[.pointer (some ⟨bl + 2, 0, none⟩)]) ∧ w.heap.size ≤ bl ∧ ACap w' gf bl p k ∧ Below w.heap.size w w'
theorem acap_three (w : World) (gf : Nat) (p : Option Addr) (k : ByteArray) :
    ACap (((w.alloc (.cells #[.pointer p] 44)).alloc (.cells #[.string k] 9)).alloc (.cells #[.func (.func gf) #[] #[.pointer (some ⟨w.heap.size, 0, none⟩), .pointer (some ⟨w.heap.size + 1, 0, none⟩)]] 59)) gf w.heap.size p k := by
  have h2 := heap_alloc_new (w.alloc (.cells #[.pointer p] 44)) (.cells #[.string k] 9)
  have h3 := heap_alloc_new ((w.alloc (.cells #[.pointer p] 44)).alloc (.cells #[.string k] 9)) (.cells #[.func (.func gf) #[] #[.pointer (some ⟨w.heap.size, 0, none⟩), .pointer (some ⟨w.heap.size + 1, 0, none⟩)]] 59)
  rw [World.size_alloc] at h2
  rw [World.size_alloc, World.size_alloc] at h3
  exact ⟨old_alloc (old_alloc (heap_alloc_new w _) _) _, old_alloc h2 _, h3⟩
theorem three_old {w : World} {g : Nat} {o : Obj} (h : w.heap[g]? = some o) (o1 o2 o3 : Obj) : (((w.alloc o1).alloc o2).alloc o3).heap[g]? = some o := old_alloc (old_alloc (old_alloc h _) _) _
theorem three_below {w : World} (o1 o2 o3 : Obj) : Below w.heap.size w (((w.alloc o1).alloc o2).alloc o3) := (((Below.refl _ w).alloc (Nat.le_refl _) _).alloc (by simp) _).alloc (by simp; omega) _
set_option maxRecDepth 100000 in
set_option maxHeartbeats 2000000 in
theorem mfrom_any {w : World} {b l : Nat} {v : Value} {E : List En} {n : Nat} {m : Int} (h : MemAt w b l v E n m) (q : En) (hq : q.wf) (hk : q.key.size ≤ 1000000) :
    Calls Tryd.prog 23 #[.pointer (some ⟨b, 0, none⟩), .agg #[.string q.key, .int .u64 q.seq, .int .i64 q.kind, .string q.val]] w (FromPost w 55 (some ⟨l, 0, none⟩) (plc q)) := by
  have HQ := Lib.hid hq
  have HK := Lib.hid hk
  have hb0 : Below w.heap.size w (w.alloc (.cells #[.string q.key, .int .u64 q.seq, .int .i64 q.kind, .string q.val] 30)) := (Below.refl _ w).alloc (Nat.le_refl _) _
  have H0 := Lib.hid (h.below hb0).drew
  have HG := Lib.hid H0.out.glo
  have X0 : Hid ((w.alloc (.cells #[.string q.key, .int .u64 q.seq, .int .i64 q.kind, .string q.val] 30)).drew.heap[w.heap.size]? = some (.cells #[.string q.key, .int .u64 q.seq, .int .i64 q.kind, .string q.val] 30 (0, 0))) := heap_alloc_new w _
  have B0 := Lib.hid (hb0.trans (below_drew _))
  have hinf := ent_info
  obtain ⟨k0, k1, k2, k3⟩ := box4 X0.out
  clear h hq hk hb0
  go_enter Tryd.func23, Tryd.ntmps23
  go_wp2
  go_region_held3 (fun wx => wx.cell? ⟨w.heap.size, 0, none⟩ = some (.string q.key) ∧ wx.cell? ⟨w.heap.size, 1, none⟩ = some (.int .u64 q.seq) ∧ wx.cell? ⟨w.heap.size, 2, none⟩ = some (.int .i64 q.kind) ∧ wx.cell? ⟨w.heap.size, 3, none⟩ = some (.string q.val))
    (first | exact ⟨k0, k1, k2, k3⟩ | exact box4 X2.out | exact box4 (three_old X2.out _ _ _) | exact box4 (old_alloc (old_alloc X2.out _) _))
    (first
      | (go_at_call 29; refine (pairs_any H0.out).mono ?_; rintro r w1 ⟨rfl, rfl⟩)
      | (go_at_call 21; refine (place_any q HQ.out HK.out m HG.out).mono ?_; rintro r w2 ⟨rfl, b2⟩; have X2 := Lib.hid (keep_b X0.out b2); have B2 := Lib.hid (B0.out.trans (b2.mono B0.out.size)); clear b2)
      | (go_at_call 41; refine (Sk.from_any _ l (plc q)).mono ?_; rintro r w3 ⟨rfl, rfl⟩)
      | (go_at_call 32; refine (entries_any _ _ _).mono ?_; rintro r w4 ⟨rfl, rfl⟩))
  all_goals
    go_wp2
    go_ret
    exact ⟨w2.heap.size, rfl, B2.out.size, acap_three w2 _ _ (plc q), B2.out.trans ((three_below _ _ _).mono B2.out.size)⟩
/-- what a memo's iterator gives -/
theorem mseq (n : Nat) (hn : 3 ≤ n) {w : World} {b l k : Nat} {v : Value} {E : List En} {m : Int} (h : MemAt w b l v E k m) {bl : Nat} {q : En} (hc : ACap w 55 bl (some ⟨l, 0, none⟩) (plc q)) (hq : q.wf) (hfr : ∀ j ∈ feet l v, j < bl) :
    ∃ s bytes st, SkAt w l v s bytes st ∧ pairs s = E.map pr ∧ s.n = k ∧ ∀ S : List Nat, (∀ j ∈ S, j < w.heap.size) → (∀ j ∈ S, (j ≠ bl ∧ j ≠ bl + 1) ∧ j ∉ feet l v ∧ j ≠ 0) →
      SeqT Fence.wide n Tryd.prog 46 #[.pointer (some ⟨bl + 2, 0, none⟩)] encE (TnL l v s bytes) (KeepsC S w.heap.size) (upE E q) w := by
  obtain ⟨s, bytes, st, hs, hp, hk⟩ := h.lst
  have hlt := hc.lt
  have hC : CapL bl (bl + 1) l v s bytes (plc q) st w := ⟨hs, hc.hl, hc.hk, fun hm => by have := hfr _ hm; omega, fun hm => by have := hfr _ hm; omega⟩
  refine ⟨s, bytes, st, hs, hp, hk, fun S hS hS2 => ?_⟩
  have hin := Sk.from_seq (n - 1) (by omega) hC
  rw [Sk.from_is hs.ok, hp, up_e h.good hq] at hin
  refine entries_seq n hn hc.hp (enters_of Tryd.func55 (by kernel_rfl) rfl) hin (fp := feet l v) (fun j hj => hs.lt j hj) (fun A B ht => ht.1) (fun h k => h.t k)
    (fun W j o o' hj ho hcl hw => ⟨World.putObj_heap_other (by omega), World.putObj_heap_other (by omega), fun i hi => World.putObj_heap_other (by have := hs.lt i hi; omega)⟩)
    (fun A B hk => ⟨hk.1 _ (by omega) (fun hm => by have := (hS2 _ hm).1; omega), hk.1 _ (by omega) (fun hm => by have := (hS2 _ hm).1; omega), fun i hi => hk.1 _ (hs.lt i hi) (fun hm => (hS2 _ hm).2.1 hi)⟩)
    hS (fun hm => by have := h.low 0 hm; omega) (fun hm => (hS2 0 hm).2.2 rfl) h.glo (fun x hx => h.good x (by
      unfold upE at hx; exact (List.mem_filter.1 hx).1))
end Go.Proofs.YtadejeoiffaimaaDoor.Me
