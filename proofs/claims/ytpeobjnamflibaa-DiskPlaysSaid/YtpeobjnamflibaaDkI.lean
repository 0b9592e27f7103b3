/-
  The Go text of how a file meets its fate in a crash, walked. Conditions: as each theorem states.
-/
import Derived.Test.YtpeobjnamflibaaDkH
namespace Go.Proofs.Ytpeobjnamflibaa.Dk
open Go.RowKit Go.Maps

theorem FileAt.drewN {w : World} {e : Ent} (h : FileAt w e) (n : Nat) : FileAt (w.drewN n) e := ⟨h.cells, h.row, h.sure⟩
theorem FileAt.below {w w' : World} {e : Ent} (h : FileAt w e) (hb : Below w.heap.size w w') : FileAt w' e := h.kept (fun k hk => hb.block k (h.lt k hk))
theorem file_cap {w : World} {e : Ent} (h : FileAt w e) : ∃ a c, e.v = .slice a e.bytes.length c ∧ e.bytes.length ≤ c := by
  rcases h.row.2 with ⟨h1, h2⟩ | ⟨g, cap, cur, h1, _, _, hn, _⟩
  · exact ⟨none, 0, by rw [h1, h2], by omega⟩
  · exact ⟨_, _, h1, hn⟩
theorem file_some {w : World} {e : Ent} (h : FileAt w e) (hp : 0 < e.bytes.length) : ∃ g c, e.v = .slice (some ⟨g, 0, none⟩) e.bytes.length c ∧ e.bytes.length ≤ c ∧ (∀ j b, e.bytes[j]? = some b → w.cell? ⟨g, j, none⟩ = some (.int .u8 (b.toNat : Int))) ∧ ∀ j, w.frozen? ⟨g, j, none⟩ = false := by
  rcases h.row.2 with ⟨h1, h2⟩ | ⟨g, cap, cur, h1, _, hg, hn, _, hcs, ht⟩
  · omega
  · refine ⟨g, cap, h1, hn, fun j b hj => ?_, fun j => free_in hg j⟩
    have hjl := (List.getElem?_eq_some_iff.1 hj).1
    have : (cur.toList.take (e.bytes.length * 1))[j]? = some (u8v b) := by rw [ht]; simp [hj]
    rw [Nat.mul_one, List.getElem?_take_of_lt hjl] at this
    exact cell_in hg j (u8v b) (by simpa using this)
/-- what of the loose bytes a fate keeps -/
def keepOf (keep : Int) (e : Ent) : Nat := (min (max keep 0) ((e.bytes.length - e.sure : Nat) : Int)).toNat
theorem keepOf_eq (keep : Int) (e : Ent) : min (max keep 0) ((e.bytes.length - e.sure : Nat) : Int) = ((keepOf keep e : Nat) : Int) := by unfold keepOf; omega
theorem keepOf_le (keep : Int) (e : Ent) : keepOf keep e ≤ e.bytes.length - e.sure := by unfold keepOf; omega
/-- a file behind a crash: no byte turned -/
def Ent.kept (e : Ent) (K : Nat) (v : Value) : Ent := ⟨e.name, e.bytes.take (e.sure + K), e.sure + K, e.blk, v⟩
def cutV (v : Value) (n : Nat) : Value := match v with | .slice a _ c => .slice a n c | v => v
theorem row_cut {w : World} {va : Option Addr} {n n' vc : Nat} {xs : List Value} (h : w.ownsRow 0 5 1 (.slice va n vc) n xs) (hn : n' ≤ n) : w.ownsRow 0 5 1 (.slice va n' vc) n' (xs.take n') := by
  have hl : xs.length = n := by simpa using h.1
  refine ⟨by simp; omega, ?_⟩
  rcases h.2 with ⟨h1, h2⟩ | ⟨g, cap, cur, h1, hb, hg, hnc, hm, hcs, ht⟩
  · injection h1 with a1 a2 a3
    exact Or.inl ⟨by rw [a1, a3, show n' = 0 by omega], by omega⟩
  · injection h1 with a1 a2 a3
    refine Or.inr ⟨g, cap, cur, by rw [a1, a3], hb, hg, by omega, hm, hcs, ?_⟩
    rw [← ht, List.take_take]
    congr 1
    omega
theorem meet_end {w W W' : World} {e : Ent} {va : Option Addr} {vc K : Nat} (hF : FileAt W e) (hB : Only e.foot w W) (hv : e.v = .slice va e.bytes.length vc) (hne : e.v.ownBlock ≠ some e.blk) (hK : e.sure + K ≤ e.bytes.length)
    (h1 : W'.heap = (((W.setCell ⟨e.blk, 1, none⟩ (.int .i64 ((e.sure : Int) + (K : Int)))).setCell ⟨e.blk, 0, none⟩ (.slice va (e.sure + K) vc))).heap) (h2 : W'.os = W.os) (h3 : W'.tape = W.tape) (h4 : W'.output = W.output) :
    FileAt W' (e.kept K (cutV e.v (e.sure + K))) ∧ Only e.foot w W' := by
  have hcv : cutV e.v (e.sure + K) = .slice va (e.sure + K) vc := by rw [hv]; rfl
  have hkeep : ∀ g, g ≠ e.blk → W'.heap[g]? = W.heap[g]? := fun g hg => by
    rw [h1]
    exact (Below.heap_setCell _ _ _ _ (fun e0 => hg e0)).trans (Below.heap_setCell _ _ _ _ (fun e0 => hg e0))
  refine ⟨⟨?_, ?_, ?_⟩, ⟨h2.trans hB.os, h3.trans hB.tape, h4.trans hB.output, ?_, ?_⟩⟩
  · rw [h1, hcv]
    have := heap_set (heap_set hF.cells 1 (.int .i64 ((e.sure : Int) + (K : Int)))) 0 (.slice va (e.sure + K) vc)
    simpa [fileCells, Ent.kept] using this
  · rw [hcv]
    have hr := hF.row
    rw [hv] at hr
    have hc := row_cut hr hK
    show World.ownsRow _ 0 5 1 _ (e.bytes.take (e.sure + K)).length ((e.bytes.take (e.sure + K)).map u8v)
    rw [List.length_take, Nat.min_eq_left hK, List.map_take]
    refine ownsRow_kept hc (fun g hg => hkeep g (fun e0 => hne ?_))
    rw [hv, ← e0, ← hg]; cases va <;> rfl
  · show e.sure + K ≤ (e.bytes.take (e.sure + K)).length
    rw [List.length_take]; omega
  · rw [h1]; simpa [World.setCell] using hB.size
  · intro k hk hn
    exact (hkeep k (fun e0 => hn (by simp [Ent.foot, e0]))).trans (hB.block k hk hn)
set_option maxRecDepth 100000 in
theorem meet_plain {w : World} {e : Ent} (h : FileAt w e) (hb : e.bytes.length ≤ 16777216) (keep at' turn : Int)
    (hat : at' < 0 ∨ ((keepOf keep e : Nat) : Int) ≤ at') (hne : e.v.ownBlock ≠ some e.blk) :
    Calls Try.prog 41 #[.pointer (some ⟨e.blk, 0, none⟩), .agg #[.int .i64 keep, .int .i64 at', .int .u8 turn]] w fun r w' => r = .returned (.tuple #[]) ∧ FileAt w' (e.kept (keepOf keep e) (cutV e.v (e.sure + keepOf keep e))) ∧ Only e.foot w w' := by
  have hK := keepOf_eq keep e
  have hKl := keepOf_le keep e
  obtain ⟨K, hKd⟩ : ∃ K, keepOf keep e = K := ⟨_, rfl⟩
  rw [hKd] at hK hKl hat ⊢
  clear hKd
  have hsu := h.sure
  have hlt : e.blk < w.heap.size := h.lt e.blk (by simp [Ent.foot])
  go_enter Try.func41, Try.ntmps41
  go_wp2
  have k0 := World.cell?_alloc_new w #[.int .i64 keep, .int .i64 at', .int .u8 turn] 65
  generalize hW : w.alloc (.cells #[.int .i64 keep, .int .i64 at', .int .u8 turn] 65) = W at k0 ⊢
  have hF : FileAt W e := by rw [← hW]; exact h.below ((Below.refl _ w).alloc (Nat.le_refl _) _)
  have hBW : Below w.heap.size w W := by rw [← hW]; exact (Below.refl _ w).alloc (Nat.le_refl _) _
  have k1 : W.cell? ⟨w.heap.size, 0, none⟩ = some (.int .i64 keep) := k0 0
  have k2 : W.cell? ⟨w.heap.size, 1, none⟩ = some (.int .i64 at') := k0 1
  have f0 := file0 hF
  obtain ⟨va, vc, hv, hcap⟩ := file_cap hF
  rw [hv] at f0
  have HV := Lib.hid hv
  clear hv
  have f1 := file1 hF
  have z0 := free_in hF.cells 0
  have z1 := free_in hF.cells 1
  have HF := Lib.hid (And.intro hF hBW)
  clear k0 hW hF hBW
  go_quiet ((go_at_call 40; refine Calls.quiet_of (floose_any (HF.out.1.drewN _) hb)))
  have e2 : ((e.sure : Int) + (K : Int)).toNat = e.sure + K := by omega
  have l1 : (0 : Int) ≤ (e.sure : Int) + (K : Int) := by omega
  have l2 : ((e.sure : Int) + (K : Int)) ≤ (vc : Int) := by omega
  have hend : ∀ W' : World, W'.heap = (((W.setCell ⟨e.blk, 1, none⟩ (.int .i64 ((e.sure : Int) + (K : Int)))).setCell ⟨e.blk, 0, none⟩ (.slice va (e.sure + K) vc))).heap → W'.os = W.os → W'.tape = W.tape → W'.output = W.output →
      FileAt W' (e.kept K (cutV e.v (e.sure + K))) ∧ Only e.foot w W' := fun W' h1 h2 h3 h4 => meet_end HF.out.1 (Only.of_below HF.out.2) HV.out hne (by omega) h1 h2 h3 h4
  have HE := Lib.hid hend
  clear hend
  rcases hat with hat | hat
  · go_wp2
    go_region
    go_end0
    exact ⟨rfl, HE.out _ rfl rfl rfl rfl⟩
  · have hat0 : 0 ≤ at' := by omega
    go_wp2
    go_region
    go_end0
    exact ⟨rfl, HE.out _ rfl rfl rfl rfl⟩

/-- a byte of a file turned in its block -/
theorem file_turn {W : World} {e : Ent} {g n vc : Nat} (hF : FileAt W e) (hv : e.v = .slice (some ⟨g, 0, none⟩) e.bytes.length vc) (hne : e.v.ownBlock ≠ some e.blk) (u : UInt8) :
    FileAt (W.setCell ⟨g, n, none⟩ (.int .u8 (u.toNat : Int))) ⟨e.name, e.bytes.set n u, e.sure, e.blk, e.v⟩ := by
  have hgb : g ≠ e.blk := fun e0 => hne (by rw [hv, e0]; rfl)
  refine ⟨?_, ?_, by simpa using hF.sure⟩
  · exact (Below.heap_setCell _ _ _ _ (fun e0 => hgb e0.symm)).trans hF.cells
  · obtain ⟨hl, hr⟩ := hF.row
    refine ⟨by simp, ?_⟩
    rcases hr with ⟨h1, _⟩ | ⟨g', cap, cur, h1, hb, hg, hnc, hm, hcs, ht⟩
    · rw [hv] at h1; cases h1
    · have hgg : g' = g := by rw [hv] at h1; injection h1 with a1; injection a1 with a1; injection a1 with a1; exact a1.symm
      subst hgg
      refine Or.inr ⟨g', cap, _, by rw [List.length_set]; exact h1, hb, heap_set hg n _, by rw [List.length_set]; exact hnc, hm, by simpa using hcs, ?_⟩
      rw [List.length_set, Nat.mul_one] at *
      rw [Array.toList_setIfInBounds, List.take_set, ht, List.map_set]
      rfl
theorem xor_u8 (b c : UInt8) : bits .xor .u8 (b.toNat : Int) (c.toNat : Int) = ((b ^^^ c).toNat : Int) := by
  rw [UInt8.toNat_xor]; exact u8_xor_nat _ _ b.toNat_lt c.toNat_lt
theorem only_set {fp : List Nat} (W : World) (g n : Nat) (v : Value) (h : g ∈ fp) : Only fp W (W.setCell ⟨g, n, none⟩ v) := Only.of_grown (grown_set _ _ _ _) (fun k e0 => by injection e0 with e0; subst e0; exact h)
set_option maxRecDepth 100000 in
theorem meet_turn {w : World} {e : Ent} (h : FileAt w e) (hb : e.bytes.length ≤ 16777216) (keep : Int) (n : Nat) (turn : UInt8)
    (hat : n < keepOf keep e) (hne : e.v.ownBlock ≠ some e.blk) (b : UInt8) (hbt : e.bytes[e.sure + n]? = some b) :
    Calls Try.prog 41 #[.pointer (some ⟨e.blk, 0, none⟩), .agg #[.int .i64 keep, .int .i64 (n : Int), .int .u8 (turn.toNat : Int)]] w fun r w' => r = .returned (.tuple #[]) ∧
      FileAt w' ((⟨e.name, e.bytes.set (e.sure + n) (b ^^^ turn), e.sure, e.blk, e.v⟩ : Ent).kept (keepOf keep e) (cutV e.v (e.sure + keepOf keep e))) ∧ Only e.foot w w' := by
  have hK := keepOf_eq keep e
  have hKl := keepOf_le keep e
  obtain ⟨K, hKd⟩ : ∃ K, keepOf keep e = K := ⟨_, rfl⟩
  rw [hKd] at hK hKl hat ⊢
  clear hKd
  have hsu := h.sure
  have hlt : e.blk < w.heap.size := h.lt e.blk (by simp [Ent.foot])
  have hnl : e.sure + n < e.bytes.length := by omega
  go_enter Try.func41, Try.ntmps41
  go_wp2
  have k0 := World.cell?_alloc_new w #[.int .i64 keep, .int .i64 (n : Int), .int .u8 (turn.toNat : Int)] 65
  generalize hW : w.alloc (.cells #[.int .i64 keep, .int .i64 (n : Int), .int .u8 (turn.toNat : Int)] 65) = W at k0 ⊢
  have hF : FileAt W e := by rw [← hW]; exact h.below ((Below.refl _ w).alloc (Nat.le_refl _) _)
  have hBW : Below w.heap.size w W := by rw [← hW]; exact (Below.refl _ w).alloc (Nat.le_refl _) _
  have k1 : W.cell? ⟨w.heap.size, 0, none⟩ = some (.int .i64 keep) := k0 0
  have k2 : W.cell? ⟨w.heap.size, 1, none⟩ = some (.int .i64 (n : Int)) := k0 1
  have k3 : W.cell? ⟨w.heap.size, 2, none⟩ = some (.int .u8 (turn.toNat : Int)) := k0 2
  obtain ⟨g, vc, hv, hcap, hg⟩ := file_some hF (by omega)
  have hgb : g ≠ e.blk := fun e0 => hne (by rw [hv, e0]; rfl)
  have hcb : W.cell? ⟨g, e.sure + n, none⟩ = some (.int .u8 (b.toNat : Int)) := hg.1 (e.sure + n) b hbt
  have hzb : W.frozen? ⟨g, e.sure + n, none⟩ = false := hg.2 (e.sure + n)
  have f0 := file0 hF
  rw [hv] at f0
  have f1 := file1 hF
  have z0 := free_in hF.cells 0
  have z1 := free_in hF.cells 1
  have HF := Lib.hid (And.intro hF (And.intro hBW hv))
  clear k0 hW hF hBW hg hv hbt
  go_quiet ((go_at_call 40; refine Calls.quiet_of (floose_any (HF.out.1.drewN _) hb)))
  have e2 : ((e.sure : Int) + (K : Int)).toNat = e.sure + K := by omega
  have e3 : ((e.sure : Int) + (n : Int)).toNat = e.sure + n := by omega
  have l1 : (0 : Int) ≤ (e.sure : Int) + (K : Int) := by omega
  have l2 : ((e.sure : Int) + (K : Int)) ≤ (vc : Int) := by omega
  have l3 : (0 : Int) ≤ (e.sure : Int) + (n : Int) := by omega
  have l4 : (e.sure : Int) + (n : Int) < (e.bytes.length : Int) := by omega
  have l5 : (n : Int) < (K : Int) := by omega
  have hend : ∀ W' : World, W'.heap = ((((W.setCell ⟨g, e.sure + n, none⟩ (.int .u8 (bits .xor .u8 (b.toNat : Int) (turn.toNat : Int)))).setCell ⟨e.blk, 1, none⟩ (.int .i64 ((e.sure : Int) + (K : Int)))).setCell ⟨e.blk, 0, none⟩ (.slice (some ⟨g, 0, none⟩) (e.sure + K) vc))).heap → W'.os = W.os → W'.tape = W.tape → W'.output = W.output →
      FileAt W' ((⟨e.name, e.bytes.set (e.sure + n) (b ^^^ turn), e.sure, e.blk, e.v⟩ : Ent).kept K (cutV e.v (e.sure + K))) ∧ Only e.foot w W' := fun W' h1 h2 h3 h4 => by
    rw [xor_u8] at h1
    exact meet_end (e := ⟨e.name, e.bytes.set (e.sure + n) (b ^^^ turn), e.sure, e.blk, e.v⟩) (file_turn HF.out.1 HF.out.2.2 hne _) ((Only.of_below HF.out.2.1).trans (only_set W g _ _ (by simp [Ent.foot, HF.out.2.2, Value.ownBlock]))) (by simpa using HF.out.2.2) hne (by simp; omega) h1 h2 h3 h4
  have HE := Lib.hid hend
  clear hend
  go_wp2
  go_region
  go_wp2
  go_region
  go_end0
  exact ⟨rfl, HE.out _ rfl rfl rfl rfl⟩
end Go.Proofs.Ytpeobjnamflibaa.Dk
