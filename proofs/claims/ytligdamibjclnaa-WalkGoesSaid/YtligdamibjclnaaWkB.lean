/-
  A walk's places one by one: the iterator's Go text (paths) walked. Conditions: as each theorem states.
-/
import Derived.Test.YtligdamibjclnaaWkA
import Derived.Test.YtligdamibjclnaaTrd
import Derived.Test.YtligdamibjclnaaRfV
import Derived.Deep.WholeRow
namespace Go.Proofs.Ytligdamibjclnaa.Wk
open Go.RowKit Go.Shelf
open Go.Proofs.Ytligdamibjclnaa
open Go.Proofs.Ytligdamibjclnaa.Rf
open Se Fl
attribute [local go_sem] Oper.semAt_some run_store_float run_store_complex

/-- The walks behind each trade. -/
def pwalk : Pw → Int → List Trd → List Pw
  | _, _, [] => []
  | p, la, t :: l => thenW p la t.price t.size :: pwalk (thenW p la t.price t.size) t.price l
theorem pwalk_len : ∀ (p : Pw) (la : Int) (l : List Trd), (pwalk p la l).length = l.length
  | _, _, [] => rfl
  | p, la, t :: l => by simp [pwalk, pwalk_len]
def encW (p : Pw) : Array Value := #[.agg #[.complex .f64 p.pos.re p.pos.im, .complex .f64 p.hd.re p.hd.im, .int .i64 p.st, .complex .f64 p.lo.re p.lo.im, .complex .f64 p.hi.re p.hi.im]]
/-- What a round keeps: all rows but for S. -/
def KeepsA (S : List Nat) (_B : Nat) (A C : World) : Prop := ∀ k c t fr, k ∉ S → A.heap[k]? = some (.cells c t fr) → C.heap[k]? = some (.cells c t fr)
theorem KeepsA.t {S : List Nat} {B : Nat} {X Y Z : World} (h : KeepsA S B X Y) (k : KeepsA S B Y Z) : KeepsA S B X Z := fun j c t fr h1 h2 => k j c t fr h1 (h j c t fr h1 h2)
theorem KeepsA.of_below {S : List Nat} {B : Nat} {X Y : World} (h : Below X.heap.size X Y) : KeepsA S B X Y :=
  fun k c t fr _ h2 => (h.block k (Array.getElem?_eq_some_iff.1 h2).1).trans h2
theorem keepsA_b {S : List Nat} {B : Nat} (W : World) (l : Nat) (o o' : Obj) (h : W.heap[l]? = some o) (hc : o.isCells = false) : KeepsA S B W (W.putObj l o') :=
  fun k c t fr _ h2 => by
    by_cases hk : k = l
    · subst hk; rw [h] at h2; cases h2; cases hc
    · exact (World.putObj_heap_other (by omega)).trans h2
theorem cell_block {w : World} {p : Addr} {v : Value} (h : w.cell? p = some v) : ∃ c t fr, w.heap[p.block]? = some (.cells c t fr) := by
  unfold World.cell? at h
  split at h
  · rename_i c t fr hb; exact ⟨_, _, _, hb⟩
  · cases h
theorem heap_set {w : World} {b i : Nat} {c : Array Value} {t : TypeId} {f : Nat × Nat} (h : w.heap[b]? = some (.cells c t f)) (v : Value) : (w.setCell ⟨b, i, none⟩ v).heap[b]? = some (.cells (c.setIfInBounds i v) t f) := by
  simp [World.setCell, Array.getElem?_modify, h]
theorem cells_in {w : World} {b : Nat} {c : Array Value} {t : TypeId} (h : w.heap[b]? = some (.cells c t (0, 0))) (i : Nat) {v : Value} (hv : c[i]? = some v) : w.cell? ⟨b, i, none⟩ = some v ∧ w.frozen? ⟨b, i, none⟩ = false := by
  refine ⟨by rw [cell_of_row _ _ i _ _ (0, 0) h]; exact hv, ?_⟩
  unfold World.frozen?; rw [h]; simp
/-- Five stores. -/
def set5 (w : World) (b : Nat) (q : Pw) : World :=
  ((((w.setCell ⟨b, 0, none⟩ (.complex .f64 q.pos.re q.pos.im)).setCell ⟨b, 1, none⟩ (.complex .f64 q.hd.re q.hd.im)).setCell ⟨b, 2, none⟩ (.int .i64 q.st)).setCell ⟨b, 3, none⟩ (.complex .f64 q.lo.re q.lo.im)).setCell ⟨b, 4, none⟩ (.complex .f64 q.hi.re q.hi.im)
theorem set5_row {w : World} {b : Nat} {p q : Pw} {t : TypeId} (h : w.heap[b]? = some (.cells (pcs p) t (0, 0))) : (set5 w b q).heap[b]? = some (.cells (pcs q) t (0, 0)) := by
  have h1 := heap_set (i := 0) h (.complex .f64 q.pos.re q.pos.im)
  have h2 := heap_set (i := 1) h1 (.complex .f64 q.hd.re q.hd.im)
  have h3 := heap_set (i := 2) h2 (.int .i64 q.st)
  have h4 := heap_set (i := 3) h3 (.complex .f64 q.lo.re q.lo.im)
  exact heap_set (i := 4) h4 (.complex .f64 q.hi.re q.hi.im)
theorem grown_set (w : World) (b i : Nat) (v : Value) : w.grownBy (w.setCell ⟨b, i, none⟩ v) (some b) :=
  ⟨rfl, rfl, rfl, by simp, fun k _ hne => Below.heap_setCell w ⟨b, i, none⟩ v k (fun e => hne (by rw [e]))⟩
theorem grown_t {a b c : World} {row : Option Nat} (h : a.grownBy b row) (k : b.grownBy c row) : a.grownBy c row :=
  ⟨k.os.trans h.os, k.tape.trans h.tape, k.output.trans h.output, Nat.le_trans h.size k.size, fun j hj hne => (k.block j (Nat.lt_of_lt_of_le hj h.size) hne).trans (h.block j hj hne)⟩
theorem set5_grown (w : World) (b : Nat) (q : Pw) : w.grownBy (set5 w b q) (some b) :=
  grown_t (grown_t (grown_t (grown_t (grown_set _ _ _ _) (grown_set _ _ _ _)) (grown_set _ _ _ _)) (grown_set _ _ _ _)) (grown_set _ _ _ _)
theorem grown_b {w w1 : World} (hb : Below w.heap.size w w1) (row : Option Nat) : w.grownBy w1 row := ⟨hb.os, hb.tape, hb.output, hb.size, fun k hk _ => hb.block k hk⟩
theorem trow_heap {W W' : World} {A : Option Addr} {l : List Trd} (h : TRow W A l) (hs : W.heap.size ≤ W'.heap.size) (he : ∀ a, A = some a → W'.heap[a.block]? = W.heap[a.block]?) : TRow W' A l := fun h0 => by
  obtain ⟨a, rfl, h1, h2⟩ := h h0
  refine ⟨a, rfl, by omega, fun i hi => ?_⟩
  obtain ⟨c0, c1, c2, c3⟩ := h2 i hi
  have k : ∀ p : Addr, p.block = a.block → W'.cell? p = W.cell? p := fun p hp => World.cell?_of_block (by rw [hp]; exact he a rfl)
  exact ⟨(k _ (block_add _ _)).trans c0, (k _ (by rw [block_add, block_add])).trans c1, (k _ (by rw [block_add, block_add])).trans c2, (k _ (by rw [block_add, block_add])).trans c3⟩
theorem blk_chain {wr w2 W3 : World} {o : Obj} {bp : Nat} {q : Pw} {j : Nat} (h1 : Below (wr.alloc o).heap.size (wr.alloc o) w2) (h2 : j < wr.heap.size) (hne : j ≠ bp) (h3 : W3.heap[j]? = (set5 w2 bp q).heap[j]?) : W3.heap[j]? = wr.heap[j]? := by
  have h4 : (set5 w2 bp q).heap[j]? = w2.heap[j]? := (set5_grown w2 bp q).block j (by have := h1.size; simp at this; omega) (fun e => by injection e with e; exact hne e)
  exact h3.trans (h4.trans ((h1.block j (by simp; omega)).trans (Below.heap_alloc wr o j h2)))
theorem size_chain {wr w2 W3 : World} {o : Obj} {bp B : Nat} {q : Pw} (h1 : Below (wr.alloc o).heap.size (wr.alloc o) w2) (h3 : KeepsFrom B (set5 w2 bp q) W3) : wr.heap.size ≤ W3.heap.size := by
  have h4 := (set5_grown w2 bp q).size
  have h5 := h1.size
  have h6 := h3.size
  simp at h5; omega
/-- The iterator under way. -/
def PaJ (l : List Trd) (A : Option Addr) (J : List Pw → World → Prop) (bp : Nat) (la i : Value) (wr : World) : Prop :=
  ∃ (k : Nat) (pre : List Pw) (p : Pw) (z : Pz) (x : Int), k ≤ l.length ∧ i = .int .i64 k ∧ la = .int .i64 x ∧ pwalk begW 0 l = pre ++ pwalk p x (l.drop k) ∧ PF p z k ∧ J pre wr ∧ wr.heap[bp]? = some (.cells (pcs p) 26 (0, 0)) ∧ TRow wr A l
set_option maxRecDepth 100000 in
set_option maxHeartbeats 2000000 in
theorem paths_seq (n : Nat) (hn : 1 ≤ n) {w : World} {bl : Nat} {A : Option Addr} {c : Nat} {l : List Trd} {S : List Nat} (hl : l.length ≤ 1000)
    (hbl : w.heap[bl]? = some (.cells #[.slice A l.length c] 22 (0, 0))) (hRo : TRow w A l) (hS : 0 < l.length → ∀ a, A = some a → a.block ∉ S) (hSw : ∀ k ∈ S, k < w.heap.size) :
    SeqV Fence.wide n Try.prog 28 #[.pointer (some ⟨bl, 0, none⟩)] encW (KeepsA S w.heap.size) (pwalk begW 0 l) w := fun lp J Jx W hW hJ hJx hY h0 => by
  have hsW := hW.size
  have hbll : bl < w.heap.size := (Array.getElem?_eq_some_iff.1 hbl).1
  have hbW := (hW.block bl hbll).trans hbl
  have hblW : bl < W.heap.size := by omega
  have hrW : TRow W A l := hRo.below hW
  refine callsIn_of_wp Try.func28 rfl trivial ?_ rfl
  simp only [Try.ntmps28, List.size_toArray, List.length_cons, List.length_nil, Nat.reduceAdd, Nat.reduceSub, Array.replicate_succ, Array.replicate_zero, List.push_toArray, List.append_toArray, List.nil_append, List.cons_append]
  gi_wp2_with (first | (refine ⟨trivial, ?_⟩; gi_at_call 17; refine (callsIn_wide.2 (begin_x _)).mono ?_; rintro e w1 ⟨rfl, hb1⟩; have hc1 := (cells_in ((hb1.block bl hblW).trans hbW) 0 (v := .slice A l.length c) rfl).1; have hl1 : bl < w1.heap.size := Nat.lt_of_lt_of_le hblW hb1.size))
  have hsz1 := hb1.size
  have HST : Hid (PaJ l A J w1.heap.size (.int .i64 0) (.int .i64 0) (w1.alloc (.cells #[.complex .f64 0 0, .complex .f64 4607182418800017408 0, .int .i64 0, .complex .f64 0 0, .complex .f64 0 0] 26))) :=
    ⟨0, [], begW, begZ, 0, by omega, rfl, rfl, rfl, pf_beg, hJ.alloc _ (hJ _ _ _ none h0 (grown_b hb1 none) (fun r e => by cases e)), heap_alloc_last w1 _, (hrW.below hb1).below ((Below.refl _ w1).alloc (Nat.le_refl _) _)⟩
  clear hc1 hl1 hb1 h0
  gi_loopw [4, 10] (fun la i wr => PaJ l A J w1.heap.size la i wr) (fun _ i _ => l.length - (intOf i).toNat)
  case atStart => exact HST.out
  case round =>
    clear HST
    obtain ⟨k, pre, p, z, x, hk, rfl, rfl, hpw, hpf, hJs, hbox, hrow⟩ := hrel
    by_cases h1 : k < l.length
    · obtain ⟨a, rfl, hab, hc⟩ := hrow (by omega)
      obtain ⟨c0, c1, c2, c3⟩ := hc k h1
      have x1 : wr.cell? ⟨(a.add (k * 4)).block, (a.add (k * 4)).off + 1, none⟩ = some (.int .u64 (l[k]).taker) := c1
      have x2 : wr.cell? ⟨(a.add (k * 4)).block, (a.add (k * 4)).off + 2, none⟩ = some (.int .i64 (l[k]).price) := c2
      have x3 : wr.cell? ⟨(a.add (k * 4)).block, (a.add (k * 4)).off + 3, none⟩ = some (.int .i64 (l[k]).size) := c3
      have hd : l.drop k = l[k] :: l.drop (k + 1) := List.drop_eq_getElem_cons h1
      have hpw2 : pwalk begW 0 l = pre ++ [thenW p x (l[k]).price (l[k]).size] ++ pwalk (thenW p x (l[k]).price (l[k]).size) (l[k]).price (l.drop (k + 1)) := by
        rw [hpw, hd]; simp [pwalk]
      have hq := (then_pf hpf (by omega) x (l[k]).price (l[k]).size).1
      have CT := Lib.hid (fun W => then_x hpf (by omega) x (l[k]).maker (l[k]).taker (l[k]).price (l[k]).size W)
      have HP := Lib.hid hpw2
      have HQ := Lib.hid hq
      have HJS := Lib.hid hJs
      have HBX := Lib.hid hbox
      have HRW := Lib.hid hrow
      have b0 := (cells_in hbox 0 (v := .complex .f64 p.pos.re p.pos.im) rfl).1
      have b1 := (cells_in hbox 1 (v := .complex .f64 p.hd.re p.hd.im) rfl).1
      have b2 := (cells_in hbox 2 (v := .int .i64 p.st) rfl).1
      have b3 := (cells_in hbox 3 (v := .complex .f64 p.lo.re p.lo.im) rfl).1
      have b4 := (cells_in hbox 4 (v := .complex .f64 p.hi.re p.hi.im) rfl).1
      have hbl1 : w1.heap.size < wr.heap.size := (Array.getElem?_eq_some_iff.1 hbox).1
      clear hc c1 c2 c3 hd hpw hpw2 hq hJs hbox hrow hpf
      generalize thenW p x (l[k]).price (l[k]).size = q at *
      generalize l[k] = t at *
      obtain ⟨mk, tk, pr, sz⟩ := t
      simp only at CT x1 x2 x3 c0 HP HQ
      gi_wp2_with (first
        | (refine ⟨trivial, ?_⟩; gi_at_call 16; refine (callsIn_wide.2 (CT.out _)).mono ?_; rintro e w2 ⟨rfl, hb2⟩
           have hbx2 : w2.heap[w1.heap.size]? = some (.cells (pcs p) 26 (0, 0)) := (hb2.block _ (by simp; omega)).trans ((Below.heap_alloc wr _ _ hbl1).trans HBX.out)
           have d0 := cells_in hbx2 0 (v := .complex .f64 p.pos.re p.pos.im) rfl
           have d1 := cells_in hbx2 1 (v := .complex .f64 p.hd.re p.hd.im) rfl
           have d2 := cells_in hbx2 2 (v := .int .i64 p.st) rfl
           have d3 := cells_in hbx2 3 (v := .complex .f64 p.lo.re p.lo.im) rfl
           have d4 := cells_in hbx2 4 (v := .complex .f64 p.hi.re p.hi.im) rfl
           obtain ⟨d0, f0⟩ := d0
           obtain ⟨d1, f1⟩ := d1
           obtain ⟨d2, f2⟩ := d2
           obtain ⟨d3, f3⟩ := d3
           obtain ⟨d4, f4⟩ := d4
           have HB2 := Lib.hid hb2
           have J5 := hJ pre w2 (set5 w2 w1.heap.size q) (some w1.heap.size) (hJ pre _ w2 none (hJ.alloc _ HJS.out) (grown_b hb2 none) (fun r e => by cases e)) (set5_grown _ _ _) (fun r e => by cases e; exact hsz1)
           have B5 := Lib.hid (set5_row (q := q) hbx2)
           obtain ⟨fn, tmps, assign, body, hy, hR⟩ := hY pre q _ J5 ⟨_, HP.out.symm⟩
           have e2 : wr.heap.size < w2.heap.size := by have := hb2.size; simp at this; omega
           have y2 : w2.cell? ⟨wr.heap.size, 2, none⟩ = some (.int .i64 pr) := (cells_in ((hb2.block wr.heap.size (by simp)).trans (heap_alloc_last wr _)) 2 rfl).1
           clear J5 hbx2 hb2
           dsimp only [encW, set5] at hy))
      have habw : a.block < w.heap.size := by
        obtain ⟨a', ea, h2, _⟩ := hRo (by omega)
        injection ea with ea
        subst ea; exact h2
      have HAS := hS (by omega) a rfl
      have HBL := Lib.hid (fun W3 h => blk_chain (q := q) (W3 := W3) HB2.out hab (by omega : a.block ≠ w1.heap.size) h)
      have HSL := Lib.hid (fun B W3 h => size_chain (q := q) (bp := w1.heap.size) (B := B) (W3 := W3) HB2.out h)
      refine hR.mono ?_
      rintro e W3 (⟨rfl, hJ3, hk3, hkf3⟩ | ⟨rfl, hJx3, _⟩)
      · have hbox3 := hk3 _ _ _ _ (fun hm => by have := hSw _ hm; omega) B5.out
        have hblk3 := HBL.out W3 (by
          obtain ⟨c', t', fr', hcb⟩ := cell_block c0
          rw [block_add] at hcb
          have hs5 := (HBL.out (set5 w2 w1.heap.size q) rfl).trans hcb
          rw [hs5]; exact hk3 _ _ _ _ HAS hs5)
        have hrow3 : TRow W3 (some a) l := trow_heap HRW.out (HSL.out _ W3 hkf3) (fun a' ea => by cases ea; exact hblk3)
        clear hk3 hkf3 hblk3
        gi_wp2
        go_roundw
        case rel => exact ⟨k + 1, pre ++ [q], q, _, pr, by omega, by go_num, rfl, HP.out, HQ.out, hJ3, hbox3, hrow3⟩
        case measure => simp [intOf]; omega
      · gi_wp2
        refine bodyPost_ret (results_none rfl _ _ _) rfl ?_
        exact ⟨⟨_, rfl⟩, .inr ⟨pre ++ [q], ⟨_, HP.out.symm⟩, hJx3⟩⟩
    · obtain rfl : k = l.length := by omega
      gi_wp2
      go_end0
      refine ⟨⟨_, rfl⟩, .inl ?_⟩
      rw [hpw, List.drop_length]; simpa [pwalk] using hJs
end Go.Proofs.Ytligdamibjclnaa.Wk
