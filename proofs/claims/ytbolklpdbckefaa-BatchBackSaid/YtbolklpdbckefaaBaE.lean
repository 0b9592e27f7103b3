/-
  The Go text of batches, walked: Parse. Conditions: as each theorem states.
-/
import Derived.Test.YtbolklpdbckefaaBaD
import Derived.Deep.AppendLies
import Derived.Deep.RegionLaw
namespace Go.Proofs.Ytbolklpdbckefaa.Ba
open Go.RowKit
open Go.Proofs.Ytbolklpdbckefaa
open Vi

def Chg.cells (c : Chg) : List Value := [.int .i64 c.kind, .string c.key, .string c.value]
def cCells (l : List Chg) : List Value := l.flatMap Chg.cells
theorem cCells_snoc (l : List Chg) (c : Chg) : cCells (l ++ [c]) = cCells l ++ c.cells := by unfold cCells; rw [List.flatMap_append]; simp
theorem infoChg : (Try.prog.info? 35).map (fun i => (i.zero, i.size, i.bytes)) = some (some (.agg #[.int .i64 0, .string ⟨#[]⟩, .string ⟨#[]⟩]), 3, 40) := by kernel_rfl
theorem news_three (w1 : World) (u v x : Value) (t : TypeId) : ∀ j y, [u, v, x][j]? = some y → (w1.alloc (.cells #[u, v, x] t)).cell? ((⟨w1.heap.size, 0, none⟩ : Addr).add j) = some y := by
  intro j y hj
  match j, hj with
  | 0, hj => simp at hj; subst hj; simp [Addr.add]
  | 1, hj => simp at hj; subst hj; simp [Addr.add]
  | 2, hj => simp at hj; subst hj; simp [Addr.add]
/-- Parse under way: the answer's box, the reader, the batch's box, its row -/
structure PS (w : World) (s : ByteArray) (kb : Nat) (seq : Nat) (v : Value) (l : List Chg) (at_ : Nat) (err : Int) (W : World) : Prop where
  rd : RdAt 61 W (w.heap.size + 1) s at_ err
  box : W.heap[w.heap.size]? = some (.cells #[.int .u64 0, .slice none 0 0] 27 (0, 0))
  b : W.heap[kb]? = some (.cells #[.int .u64 seq, v] 27 (0, 0))
  own : W.ownsRow (kb + 1) 35 3 v l.length (cCells l)
  below : Below w.heap.size w W
  far : w.heap.size + 1 < kb
section
variable {w : World} {s : ByteArray} {kb seq : Nat} {v : Value} {l : List Chg} {at_ : Nat} {err : Int} {W W' : World}
theorem PS.size (h : PS w s kb seq v l at_ err W) : kb < W.heap.size := (Array.getElem?_eq_some_iff.1 h.b).1
theorem PS.row_far (h : PS w s kb seq v l at_ err W) : ∀ k, v.ownBlock = some k → kb < k := fun k hk => by have := (h.own.lt k hk).1; omega
theorem ps_grown (h : PS w s kb seq v l at_ err W) {at2 : Nat} {err2 : Int} (hr : RdAt 61 W' (w.heap.size + 1) s at2 err2) (hg : W.grownBy W' (some (w.heap.size + 1))) : PS w s kb seq v l at2 err2 W' :=
  have hz := h.size
  have hf := h.far
  ⟨hr, (hg.block _ (by omega) (fun e => by injection e with e; omega)).trans h.box, (hg.block _ (by omega) (fun e => by injection e with e; omega)).trans h.b,
    h.own.kept hg (.inr (fun e => by have := h.row_far _ e; omega)),
    h.below.trans ⟨hg.os, hg.tape, hg.output, hg.size, fun k hk => hg.block k (by omega) (fun e => by injection e with e; omega)⟩, h.far⟩
theorem ps_below (h : PS w s kb seq v l at_ err W) (hb : Below W.heap.size W W') : PS w s kb seq v l at_ err W' :=
  ps_grown h (by unfold RdAt; rw [hb.block _ (rd_lt h.rd)]; exact h.rd) (grown_below hb _)
theorem ps_alloc (h : PS w s kb seq v l at_ err W) (o : Obj) : PS w s kb seq v l at_ err (W.alloc o) := ps_below h ((Below.refl _ _).alloc (Nat.le_refl _) _)
theorem ps_drew (h : PS w s kb seq v l at_ err W) : PS w s kb seq v l at_ err W.drew := ⟨h.rd, h.box, h.b, h.own, h.below.drew, h.far⟩
theorem ps_cells (h : PS w s kb seq v l at_ err W) : W.cell? ⟨kb, 0, none⟩ = some (.int .u64 seq) ∧ W.cell? ⟨kb, 1, none⟩ = some v ∧ ∀ j, W.frozen? ⟨kb, j, none⟩ = false := ⟨cell_in h.b 0 _ rfl, cell_in h.b 1 _ rfl, free_in h.b⟩
theorem ps_box (h : PS w s kb seq v l at_ err W) : W.cell? ⟨w.heap.size, 0, none⟩ = some (.int .u64 0) ∧ W.cell? ⟨w.heap.size, 1, none⟩ = some (.slice none 0 0) ∧ ∀ j, W.frozen? ⟨w.heap.size, j, none⟩ = false := ⟨cell_in h.box 0 _ rfl, cell_in h.box 1 _ rfl, free_in h.box⟩
/-- a row that was appended to is put into the batch's box -/
theorem ps_put (h : PS w s kb seq v l at_ err W) {v2 : Value} {l2 : List Chg} {W2 : World} (hg : W.grownBy W2 v.ownBlock) (ho : W2.ownsRow (kb + 1) 35 3 v2 l2.length (cCells l2)) : PS w s kb seq v2 l2 at_ err (W2.setCell ⟨kb, 1, none⟩ v2) := by
  have hz := h.size
  have hf := h.far
  have hkeep : ∀ k, k ≤ kb → k < W.heap.size → W2.heap[k]? = W.heap[k]? := fun k hk hlt => hg.block k hlt (fun e => by have := h.row_far _ e.symm; omega)
  have hset : ∀ k, k ≠ kb → (W2.setCell ⟨kb, 1, none⟩ v2).heap[k]? = W2.heap[k]? := fun k hk => Below.heap_setCell W2 ⟨kb, 1, none⟩ v2 k (fun e => hk (by simpa using e))
  refine ⟨?_, ?_, ?_, ?_, ?_, hf⟩
  · unfold RdAt; rw [hset _ (by omega), hkeep _ (by omega) (by omega)]; exact h.rd
  · rw [hset _ (by omega), hkeep _ (by omega) (by omega)]; exact h.box
  · have hb2 : W2.heap[kb]? = some (.cells #[.int .u64 seq, v] 27 (0, 0)) := (hkeep kb (Nat.le_refl _) hz).trans h.b
    exact heap_set hb2 1 v2
  · exact ho.kept (grown_set W2 kb 1 v2) (.inr (fun e => by have := (ho.lt _ e).1; omega))
  · have hs := hg.size
    refine h.below.trans ⟨hg.os, hg.tape, hg.output, by simpa [World.setCell] using hs, fun k hk => ?_⟩
    rw [hset _ (by omega), hkeep _ (by omega) (by omega)]
end
theorem ps_start {w w2 : World} {s : ByteArray} {seq at_ : Nat} {err : Int} (hr : RdAt 61 w2 (w.heap.size + 1) s at_ err) (hb : w2.heap[w.heap.size]? = some (.cells #[.int .u64 0, .slice none 0 0] 27 (0, 0))) (hw : Below w.heap.size w w2) :
    PS w s w2.heap.size seq (.slice none 0 0) [] at_ err (w2.alloc (.cells #[.int .u64 seq, .slice none 0 0] 27 (0, 0))) := by
  have h1 := rd_lt hr
  have hbl : Below w2.heap.size w2 (w2.alloc (.cells #[.int .u64 seq, .slice none 0 0] 27 (0, 0))) := (Below.refl _ _).alloc (Nat.le_refl _) _
  exact ⟨by unfold RdAt; rw [hbl.block _ h1]; exact hr, (hbl.block _ (by omega)).trans hb, heap_alloc_new _ _, World.ownsRow_nil _ _ _ _, hw.trans (hbl.mono hw.size), h1⟩
/-- the loop: n more are to be read -/
theorem owns_base {w : World} {B B2 : Nat} {e : TypeId} {k n : Nat} {v : Value} {xs : List Value} (h : w.ownsRow B e k v n xs) (hb : B2 ≤ B) : w.ownsRow B2 e k v n xs :=
  ⟨h.1, h.2.imp id fun ⟨g, cap, cur, h1, h2, h3⟩ => ⟨g, cap, cur, h1, Nat.le_trans hb h2, h3⟩⟩
def PaJ (w : World) (s : ByteArray) (kb : Nat) (nv : Value) (W : World) : Prop :=
  ∃ (n : Nat) (v : Value) (l : List Chg) (at_ : Nat) (err : Int), nv = .int .u64 n ∧ PS w s kb (pSeq s.data.toList) v l at_ err W ∧ at_ ≤ s.size ∧ rdL s.data.toList n at_ err l = pRows s.data.toList ∧ (err = 0 → l.length + n ≤ 2000) ∧ (∀ p ∈ l, p.small) ∧ l.length ≤ 2000
def PaPost (w : World) (s : ByteArray) (e : Ending) (w' : World) : Prop :=
  ∃ v, e = .returned (.tuple #[.agg #[.int .u64 (parse s.data.toList).2.1, v], .int .i64 (parse s.data.toList).2.2]) ∧ w'.ownsRow w.heap.size 35 3 v (parse s.data.toList).1.length (cCells (parse s.data.toList).1) ∧ Below w.heap.size w w'
theorem rdC_at {L : List UInt8} {at_ : Nat} {err : Int} (h : at_ ≤ L.length) : (rdC L at_ err).2.1 ≤ L.length := by
  have h1 := dTake_at (l := L) (at_ := at_) (err := err) (n := 1) h
  unfold rdC
  split
  · exact h1
  · rename_i c r heq
    simp only
    have h2 : (if c.toNat = 1 ∨ c.toNat = 2 then (dTake L at_ err 1).2 else dFail (dTake L at_ err 1).2.1 (dTake L at_ err 1).2.2 11).1 ≤ L.length := by
      split
      · exact h1
      · rw [dFail_at]; exact h1
    have h3 := dText_at (l := L) (err := (if c.toNat = 1 ∨ c.toNat = 2 then (dTake L at_ err 1).2 else dFail (dTake L at_ err 1).2.1 (dTake L at_ err 1).2.2 11).2) (most := 200) h2
    split
    · exact dText_at h3
    · exact h3
theorem dText_len {L : List UInt8} {at_ : Nat} {err most : Int} : (dText L at_ err most).1.length ≤ L.length := by
  rw [dText_eq]; split
  · simp
  · exact dTake_len
theorem rdC_small {L : List UInt8} {at_ : Nat} {err : Int} (h : L.length ≤ 1000000) : (rdC L at_ err).1.small := by
  have hx : ∀ {a : Nat} {e m : Int}, (bs (dText L a e m).1).size ≤ 9223372036854775807 := fun {a e m} => by
    have := dText_len (L := L) (at_ := a) (err := e) (most := m)
    rw [bs_size]; omega
  unfold rdC
  split
  · exact ⟨Nat.zero_le _, Nat.zero_le _⟩
  · simp only
    split
    · exact ⟨hx, hx⟩
    · exact ⟨hx, Nat.zero_le _⟩
theorem cflat_at : ∀ (l : List Chg) (i : Nat) (hi : i < l.length) (r : Nat), r < 3 → (cCells l)[i * 3 + r]? = l[i].cells[r]?
  | p :: l, 0, _, r, hr => by
    rw [cCells, List.flatMap_cons, Nat.zero_mul, Nat.zero_add, List.getElem?_append_left (by simpa [Chg.cells] using hr)]; rfl
  | p :: l, i + 1, hi, r, hr => by
    have e : (i + 1) * 3 + r - p.cells.length = i * 3 + r := by simp [Chg.cells]; omega
    rw [cCells, List.flatMap_cons, List.getElem?_append_right (by simp [Chg.cells]; omega), e]
    exact cflat_at l i (by simpa using hi) r hr
theorem add_flat (g k : Nat) : (⟨g, 0, none⟩ : Addr).add k = ⟨g, k, none⟩ := by unfold Addr.add; split <;> simp_all
theorem crow_of_owns {w : World} {B : Nat} {v : Value} {l : List Chg} (h : w.ownsRow B 35 3 v l.length (cCells l)) :
    ∃ A c, v = .slice A l.length c ∧ CRow w A l := by
  have hc := fun g hg => h.cells (g := g) hg
  rcases h.2 with ⟨rfl, h0⟩ | ⟨g, cap, cur, rfl, hb, hg, _⟩
  · exact ⟨none, 0, by rw [h0], fun h1 => by omega⟩
  · refine ⟨some ⟨g, 0, none⟩, cap, rfl, fun _ => ⟨_, rfl, (Array.getElem?_eq_some_iff.1 hg).1, fun i hi => ?_⟩⟩
    have hk : ∀ r u, r < 3 → l[i].cells[r]? = some u → w.cell? ⟨g, i * 3 + r, none⟩ = some u := fun r u hr hu => by
      have := hc g rfl (i * 3 + r) u (by rw [cflat_at l i hi r hr]; exact hu)
      rwa [add_flat] at this
    rw [add_flat]
    exact ⟨hk 0 _ (by decide) rfl, hk 1 _ (by decide) rfl, hk 2 _ (by decide) rfl⟩
theorem ps_wide {w w1 w2 : World} {s : ByteArray} {seq : Nat} {p : Nat × Int} (h1 : RdAt 61 w1 (w.alloc (.cells #[.int .u64 0, .slice none 0 0] 27 (0, 0))).heap.size s 0 0) (b1 : Below (w.alloc (.cells #[.int .u64 0, .slice none 0 0] 27 (0, 0))).heap.size (w.alloc (.cells #[.int .u64 0, .slice none 0 0] 27 (0, 0))) w1)
    (h2 : RdAt 61 w2 (w.heap.size + 1) s p.1 p.2) (g2 : w1.grownBy w2 (some (w.heap.size + 1))) :
    PS w s w2.heap.size seq (.slice none 0 0) [] p.1 p.2 (w2.alloc (.cells #[.int .u64 seq, .slice none 0 0] 27 (0, 0))) := by
  have hz := b1.size
  simp at hz
  have hb : Below w.heap.size w w1 := ((Below.refl _ _).alloc (Nat.le_refl _) _).trans (b1.mono (by simp))
  refine ps_start h2 ?_ (hb.trans ⟨g2.os, g2.tape, g2.output, g2.size, fun k hk => g2.block k (by omega) (fun e => by injection e with e; omega)⟩)
  rw [g2.block _ (by omega) (fun e => by injection e with e; omega), b1.block _ (by simp)]
  exact heap_alloc_new _ _
theorem ret_batch {f : Func} (hf : f.results = #[.cell 2 27, .tmp 3]) {R : Ending → World → Prop} {a : Act} {wf : World} {x y : Value} {n : Int} {g : Nat}
    (h2 : a.tmps.getD 2 undef = .pointer (some ⟨g, 0, none⟩)) (h3 : a.tmps.getD 3 undef = .int .i64 n) (hd : a.defers = [])
    (hrow : wf.heap[g]? = some (.cells #[x, y] 27 (0, 0)))
    (hR : R (.returned (.tuple #[.agg #[x, y], .int .i64 n])) wf) : bodyPost Try.prog f R .ret a wf := by
  have k0 := cell_in hrow 0 _ rfl
  have k1 := cell_in hrow 1 _ rfl
  have g2 : a.tmps[2]?.getD undef = .pointer (some ⟨g, 0, none⟩) := by simpa using h2
  have g3 : a.tmps[3]?.getD undef = .int .i64 n := by simpa using h3
  exact bodyPost_ret (v := .tuple #[.agg #[x, y], .int .i64 n]) (by simp [results, hf, g2, g3, go_sem, k0, k1]) hd hR
theorem row_sets2 {wr : World} {g : Nat} {x y : Value} (h : wr.heap[g]? = some (.cells #[x, y] 27 (0, 0))) (v0 v1 : Value) :
    ((wr.setCell ⟨g, 0, none⟩ v0).setCell ⟨g, 1, none⟩ v1).heap[g]? = some (.cells #[v0, v1] 27 (0, 0)) := by
  rw [heap_set (heap_set h 0 v0) 1 v1]; rfl
theorem below_sets2 {w wr : World} {g : Nat} {v0 v1 : Value} (h : Below g w wr) : Below g w ((wr.setCell ⟨g, 0, none⟩ v0).setCell ⟨g, 1, none⟩ v1) :=
  (h.setCell (Nat.le_refl _) _).setCell (Nat.le_refl _) _
theorem ps_drewN {w : World} {s : ByteArray} {kb seq : Nat} {v : Value} {l : List Chg} {at_ : Nat} {err : Int} {W : World} (h : PS w s kb seq v l at_ err W) (k : Nat) : PS w s kb seq v l at_ err (W.drewN k) :=
  ⟨h.rd, h.box, h.b, h.own, ⟨h.below.os, h.below.tape, h.below.output, h.below.size, h.below.block⟩, h.far⟩
theorem own_sets {w : World} {s : ByteArray} {kb seq : Nat} {v x y : Value} {l : List Chg} {at_ : Nat} {err : Int} {W : World} (h : PS w s kb seq v l at_ err W) : ((W.setCell ⟨w.heap.size, 0, none⟩ x).setCell ⟨w.heap.size, 1, none⟩ y).ownsRow w.heap.size 35 3 v l.length (cCells l) := by
  have hf := h.far
  exact owns_base ((h.own.kept (grown_set W w.heap.size 0 x) (.inr fun e => by have := h.row_far _ e; omega)).kept (grown_set _ w.heap.size 1 y) (.inr fun e => by have := h.row_far _ e; omega)) (by omega)
set_option maxHeartbeats 2000000 in
set_option maxRecDepth 100000 in
theorem parse_any (s : ByteArray) (hs : s.size ≤ 1000000) (w : World) :
    Calls Try.prog 7 #[.string s] w (PaPost w s) := by
  obtain ⟨i0, hi, hz0, hz1, hz2⟩ := info_parts infoChg
  have HI := Lib.hid (And.intro hi (And.intro hz0 (And.intro hz1 hz2)))
  clear hi hz0 hz1 hz2
  have O1 := Lib.hid (over_any s)
  have ha1 := dTake_at (l := s.data.toList) (at_ := 0) (err := 0) (n := 8) (by omega)
  have W1 : Hid (∀ (W : World), RdAt 61 W (w.heap.size + 1) s 0 0 → Calls Try.prog 18 #[.pointer (some ⟨w.heap.size + 1, 0, none⟩)] W (RdPost 61 W (w.heap.size + 1) s (.int .u64 (pSeq s.data.toList)) (dTake s.data.toList 0 0 8).2)) := fun (W : World) h => rwide_any h hs (by omega)
  have ha2 : (pNum s.data.toList).2.1 ≤ s.data.toList.length := dNum_at ha1
  have N1 : Hid (∀ (W : World), RdAt 61 W (w.heap.size + 1) s (dTake s.data.toList 0 0 8).2.1 (dTake s.data.toList 0 0 8).2.2 → Calls Try.prog 19 #[.pointer (some ⟨w.heap.size + 1, 0, none⟩)] W (RdPost 61 W (w.heap.size + 1) s (.int .u64 (pNum s.data.toList).1) (pNum s.data.toList).2)) := fun (W : World) h => rnum_any h hs ha1
  have hnl : (pNum s.data.toList).1 < 18446744073709551616 := dNum_lt _ _ _
  have HR : Hid (rdL s.data.toList (pNum s.data.toList).1 (pAt s.data.toList).1 (pAt s.data.toList).2 [] = pRows s.data.toList) := rfl
  have HA : Hid (pAt s.data.toList = if 2000 < (pNum s.data.toList).1 then dFail (pNum s.data.toList).2.1 (pNum s.data.toList).2.2 6 else (pNum s.data.toList).2) := rfl
  have HC := Lib.hid fun (W : World) (A : Option Addr) (c : Nat) (l : List Chg) (RA : CRow W A l) (hl : l.length ≤ 9223372036854775807) (hs : ∀ p ∈ l, p.small) (hq : pSeq s.data.toList < 18446744073709551616) => checkB_any (pSeq s.data.toList) hq (c := c) RA hl hs
  have hq : pSeq s.data.toList < 18446744073709551616 := by
    have h1 := dTake_small (l := s.data.toList) (at_ := 0) (err := 0) (n := 8) (by omega)
    have h2 := big_lt (dTake s.data.toList 0 0 8).1
    exact Nat.lt_of_lt_of_le h2 (Nat.le_trans (Nat.pow_le_pow_right (by decide) h1) (by decide))
  generalize (dTake s.data.toList 0 0 8).2 = p0 at W1 N1 ha1
  generalize hX : pNum s.data.toList = N at N1 ha2 hnl HR HA
  obtain ⟨n0, p1⟩ := N
  simp only at N1 ha2 hnl HR HA
  go_enter Try.func7, Try.ntmps7
  rcases Nat.lt_or_ge 2000 n0 with hmany | hmany
  case' inl =>
    have HA2 : Hid (pAt s.data.toList = dFail p1.1 p1.2 6) := HA.out.trans (if_pos hmany)
    have F1 := Lib.hid fun (W : World) (h : RdAt 61 W (w.heap.size + 1) s p1.1 p1.2) => fail_any 6 h
    go_wp2_with (first
      | (go_at_call 17; (with_reducible refine (O1.out _).mono ?_); rintro e w1 ⟨rfl, h1, b1⟩; have Q1 := Lib.hid (And.intro h1 b1); clear h1 b1)
      | (go_at_call 18; (with_reducible refine (W1.out _ (by simpa using Q1.out.1)).mono ?_); rintro e w2 ⟨rfl, h2, g2⟩; have P2 := Lib.hid (ps_wide (seq := pSeq s.data.toList) Q1.out.1 Q1.out.2 h2 g2); clear h2 g2 Q1)
      | (go_at_call 19; (with_reducible refine (N1.out _ P2.out.rd).mono ?_); rintro e w3 ⟨rfl, h3, g3⟩; have P3 := Lib.hid (ps_grown P2.out h3 g3); clear h3 g3)
      | (go_at_call 20; (with_reducible refine (F1.out _ P3.out.rd).mono ?_); rintro e w4 ⟨rfl, h4, g4⟩; have P4 := Lib.hid (ps_grown P3.out h4 g4); clear h4 g4))
    have PX : Hid (PS w s w2.heap.size (pSeq s.data.toList) (.slice none 0 0) [] (pAt s.data.toList).1 (pAt s.data.toList).2 w4) := by rw [HA2.out]; exact P4.out
    have HZ : Hid ((pAt s.data.toList).2 = 0 → n0 ≤ 2000) := fun h => by
      rw [HA2.out] at h
      by_cases he : p1.2 = 0
      · rw [he, dFail_ok] at h; simp at h
      · rw [dFail_bad he] at h; exact absurd h he
    have HT : Hid ((pAt s.data.toList).1 ≤ s.size) := by rw [HA2.out]; rw [Hid, dFail_at]; exact ha2
  case' inr =>
    have HA2 : Hid (pAt s.data.toList = p1) := HA.out.trans (if_neg (by omega))
    go_wp2_with (first
      | (go_at_call 17; (with_reducible refine (O1.out _).mono ?_); rintro e w1 ⟨rfl, h1, b1⟩; have Q1 := Lib.hid (And.intro h1 b1); clear h1 b1)
      | (go_at_call 18; (with_reducible refine (W1.out _ (by simpa using Q1.out.1)).mono ?_); rintro e w2 ⟨rfl, h2, g2⟩; have P2 := Lib.hid (ps_wide (seq := pSeq s.data.toList) Q1.out.1 Q1.out.2 h2 g2); clear h2 g2 Q1)
      | (go_at_call 19; (with_reducible refine (N1.out _ P2.out.rd).mono ?_); rintro e w3 ⟨rfl, h3, g3⟩; have P3 := Lib.hid (ps_grown P2.out h3 g3); clear h3 g3))
    have PX : Hid (PS w s w2.heap.size (pSeq s.data.toList) (.slice none 0 0) [] (pAt s.data.toList).1 (pAt s.data.toList).2 w3) := by rw [HA2.out]; exact P3.out
    have HZ : Hid ((pAt s.data.toList).2 = 0 → n0 ≤ 2000) := fun h => by
      exact hmany
    have HT : Hid ((pAt s.data.toList).1 ≤ s.size) := by rw [HA2.out]; exact ha2
  all_goals
    clear HA HA2 P2 P3 hmany
    go_loopw [6] (PaJ w s w2.heap.size) (fun nv _ => (intOf nv).toNat)
    case atStart => exact ⟨n0, _, [], _, _, rfl, PX.out, HT.out, HR.out, fun h => by have := HZ.out h; simpa using this, (fun p hp => by cases hp), by simp⟩
    case round =>
      obtain ⟨n, v, l, at_, err, rfl, P, hat, hrd, hle, hsm, hll⟩ := hrel
      replace P := Lib.hid P
      replace hrd := Lib.hid hrd
      replace hsm := Lib.hid hsm
      have ER := Lib.hid (err_any P.out.rd)
      clear PX HZ HT HR
      by_cases hgo : n ≠ 0 ∧ err = 0
      · obtain ⟨hn, rfl⟩ := hgo
        have hle := hle rfl
        have RC := Lib.hid fun (W : World) (h : RdAt 61 W (w.heap.size + 1) s at_ 0) => read_any h hs hat
        have hsc := rdC_small (L := s.data.toList) (at_ := at_) (err := 0) hs
        have hac := rdC_at (L := s.data.toList) (at_ := at_) (err := 0) hat
        obtain ⟨m, rfl⟩ : ∃ m, n = m + 1 := ⟨n - 1, by omega⟩
        have hr2 := hrd.out
        rw [rdL_on] at hr2
        generalize rdC s.data.toList at_ 0 = R at RC hsc hac hr2
        obtain ⟨⟨ck, ckey, cval⟩, a2, e2⟩ := R
        simp only at hac hr2
        have RC : Hid (∀ (W : World), RdAt 61 W (w.heap.size + 1) s at_ 0 → Calls Try.prog 22 #[.pointer (some ⟨w.heap.size + 1, 0, none⟩)] W fun e w' => e = .returned (.agg #[.int .i64 ck, .string ckey, .string cval]) ∧ RdAt 61 w' (w.heap.size + 1) s a2 e2 ∧ W.grownBy w' (some (w.heap.size + 1))) := fun W h => RC.out W h
        replace hr2 := Lib.hid hr2
        replace hsc := Lib.hid hsc
        obtain ⟨d0, d1, d2⟩ := ps_cells P.out
        have hfar := P.out.far
        have hsz := P.out.size
        clear hrd
        go_wp2_with (first
          | (go_at_call 21; (with_reducible refine ER.out.mono ?_); rintro e w5 ⟨rfl, rfl⟩))
        go_region_law (first
          | (refine step_append_lies _ rfl _ _ 23 rfl (w2.heap.size + 1) 35 i0 _ 3 40 Try.underlying23 HI.out.1 HI.out.2.1 HI.out.2.2.1 HI.out.2.2.2 rfl (by decide) v l.length (cCells l) rfl (P6.out.own.alloc _) ⟨w6.heap.size, 0, none⟩ 1 1 [.int .i64 ck, .string ckey, .string cval] rfl rfl (news_three w6 _ _ _ _) (by simp [Value.oneCell']) (by omega) (by unfold maxLen; omega) (by omega) (by simp; omega) (w6.heap.size + 1) (by simp) ?_
             intro g cap w7 hown7 hgrow7 hwhere hlt7
             have HE := Lib.hid (And.intro hown7 hgrow7)
             have b8 : w7.heap[w2.heap.size]? = some (.cells #[.int .u64 (pSeq s.data.toList), v] 27 (0, 0)) := (hgrow7.block _ (by simp; omega) (fun e => by have := P6.out.row_far _ e.symm; omega)).trans (ps_alloc P6.out _).b
             have D8 := cell_in b8 1 _ rfl
             have F8 := free_in b8 1
             clear hown7 hgrow7 hwhere hlt7 b8)
          | (go_simp; go_at_call 22; (with_reducible first | refine (RC.out _ P.out.rd).mono ?_ | refine (RC.out _ (ps_drew P.out).rd).mono ?_); rintro e w6 ⟨rfl, h6, g6⟩; have P6 : Hid (PS w s w2.heap.size (pSeq s.data.toList) v l a2 e2 w6) := (by first | exact ps_grown P.out h6 g6 | exact ps_grown (ps_drew P.out) h6 g6); obtain ⟨d3, d4, d5⟩ := ps_cells P6.out; have hsz6 := P6.out.size; clear h6 g6))
        all_goals
          go_wp2
          go_roundw
          case rel => exact ⟨m, _, l ++ [⟨ck, ckey, cval⟩], a2, e2, by go_num, ps_put (ps_alloc P6.out _) HE.out.2 (by rw [cCells_snoc, List.length_append]; exact HE.out.1), hac, hr2.out, fun _ => by rw [List.length_append, List.length_singleton]; omega, (fun p hp => by
            rcases List.mem_append.1 hp with hp | hp
            · exact hsm.out p hp
            · rw [List.mem_singleton.1 hp]; exact hsc.out), by rw [List.length_append, List.length_singleton]; omega⟩
          case measure => simp [intOf]
      · have hpr : pRows s.data.toList = (l, at_, err) := by
          rw [← hrd.out]
          by_cases hn : n = 0
          · rw [hn]; rfl
          · exact rdL_bad (fun h => hgo ⟨hn, h⟩)
        have hE : pErr s.data.toList = dEnd s.size at_ err := by unfold pErr; rw [hpr]; rfl
        have EN := Lib.hid fun (W : World) (h : RdAt 61 W (w.heap.size + 1) s at_ err) => end_any h hs hat
        have hlen : Hid (l.length ≤ 9223372036854775807) := by rw [Hid]; omega
        have hpa : parse s.data.toList = if dEnd s.size at_ err = 0 then (if chkB (pSeq s.data.toList) l = 0 then (l, pSeq s.data.toList, 0) else ([], 0, chkB (pSeq s.data.toList) l)) else ([], 0, dEnd s.size at_ err) := by unfold parse; rw [hE, hpr]
        replace hpa := Lib.hid hpa
        obtain ⟨A, c, hv, RA⟩ := crow_of_owns P.out.own
        subst hv
        have CK := Lib.hid fun (k : Nat) => HC.out (wr.drewN k) A c l RA hlen.out hsm.out hq
        have PD := Lib.hid (ps_drewN P.out)
        have hor : n = 0 ∨ (¬ n = 0 ∧ (err == 0) = false) := by
          by_cases hn : n = 0
          · exact .inl hn
          · exact .inr ⟨hn, by simpa using fun h => hgo ⟨hn, h⟩⟩
        clear hgo hrd hpr hE HC RA hle
        generalize dEnd s.size at_ err = E at EN hpa
        generalize hZ : chkB (pSeq s.data.toList) l = Z at CK hpa
        have KZ := Lib.hid hZ
        clear hZ
        by_cases e0 : E = 0
        · subst e0
          by_cases z0 : Z = 0
          · subst z0
            have HP : Hid (parse s.data.toList = (l, pSeq s.data.toList, 0)) := hpa.out.trans ((if_pos rfl).trans (if_pos rfl))
            clear hpa
            rcases hor with rfl | ⟨hn, he⟩
            all_goals
              go_wp2_with (first
                | (go_at_call 21; (with_reducible refine ER.out.mono ?_); rintro e w5 ⟨rfl, rfl⟩)
                | (go_at_call 23; (with_reducible refine (EN.out _ P.out.rd).mono ?_); rintro e w6 ⟨rfl, k, rfl⟩; have PK := Lib.hid (PD.out k); obtain ⟨c0, c1, c2⟩ := ps_cells PK.out; obtain ⟨k0, k1, k2⟩ := ps_box PK.out)
                | (go_at_call 10; (with_reducible refine (CK.out _).mono ?_); rintro e w7 ⟨rfl, b7⟩; have P7 := Lib.hid (ps_below PK.out b7); obtain ⟨c3, c4, c5⟩ := ps_cells P7.out; obtain ⟨k3, k4, k5⟩ := ps_box P7.out; clear b7))
              exact ret_batch rfl rfl rfl rfl (row_sets2 P7.out.box _ _) ⟨.slice A l.length c, by rw [HP.out], by rw [HP.out]; exact own_sets P7.out, below_sets2 P7.out.below⟩
          · have z1 : (Z == 0) = false := by simpa using z0
            have z2 : (Z != 0) = true := by simp [bne, z1]
            have HP : Hid (parse s.data.toList = ([], 0, Z)) := hpa.out.trans ((if_pos rfl).trans (if_neg z0))
            clear z0 hpa
            rcases hor with rfl | ⟨hn, he⟩
            all_goals
              go_wp2_with (first
                | (go_at_call 21; (with_reducible refine ER.out.mono ?_); rintro e w5 ⟨rfl, rfl⟩)
                | (go_at_call 23; (with_reducible refine (EN.out _ P.out.rd).mono ?_); rintro e w6 ⟨rfl, k, rfl⟩; have PK := Lib.hid (PD.out k); obtain ⟨c0, c1, c2⟩ := ps_cells PK.out; obtain ⟨k0, k1, k2⟩ := ps_box PK.out)
                | (go_at_call 10; (with_reducible refine (CK.out _).mono ?_); rintro e w7 ⟨rfl, b7⟩; have P7 := Lib.hid (ps_below PK.out b7); obtain ⟨c3, c4, c5⟩ := ps_cells P7.out; obtain ⟨k3, k4, k5⟩ := ps_box P7.out; clear b7))
              exact ret_batch rfl rfl rfl rfl (row_sets2 P7.out.box _ _) ⟨.slice none 0 0, by rw [HP.out]; rfl, by rw [HP.out]; exact World.ownsRow_nil _ _ _ _, below_sets2 P7.out.below⟩
        · have z1 : (E == 0) = false := by simpa using e0
          have z2 : (E != 0) = true := by simp [bne, z1]
          have HP : Hid (parse s.data.toList = ([], 0, E)) := hpa.out.trans (if_neg e0)
          clear e0 hpa
          rcases hor with rfl | ⟨hn, he⟩
          all_goals
            go_wp2_with (first
              | (go_at_call 21; (with_reducible refine ER.out.mono ?_); rintro e w5 ⟨rfl, rfl⟩)
              | (go_at_call 23; (with_reducible refine (EN.out _ P.out.rd).mono ?_); rintro e w6 ⟨rfl, k, rfl⟩; have PK := Lib.hid (PD.out k); obtain ⟨c0, c1, c2⟩ := ps_cells PK.out; obtain ⟨k0, k1, k2⟩ := ps_box PK.out))
            exact ret_batch rfl rfl rfl rfl (row_sets2 PK.out.box _ _) ⟨.slice none 0 0, by rw [HP.out]; rfl, by rw [HP.out]; exact World.ownsRow_nil _ _ _ _, below_sets2 PK.out.below⟩
end Go.Proofs.Ytbolklpdbckefaa.Ba
