/-
  The Go text of batches, walked: a change is read. Conditions: as each theorem states.
-/
import Derived.Test.YtbolklpdbckefaaBaC
namespace Go.Proofs.Ytbolklpdbckefaa.Ba
open Go.RowKit
open Go.Proofs.Ytbolklpdbckefaa
open Vi

/-- a reader, the answer's box and what was there, behind some calls -/
structure RS (w : World) (a : Nat) (s : ByteArray) (c : Array Value) (at_ : Nat) (err : Int) (W : World) : Prop where
  rd : RdAt 61 W a s at_ err
  box : W.heap[w.heap.size]? = some (.cells c 35 (0, 0))
  grown : w.grownBy W (some a)
  lt : a < w.heap.size
theorem rs_size {w : World} {a : Nat} {s : ByteArray} {c : Array Value} {at_ : Nat} {err : Int} {W : World} (h : RS w a s c at_ err W) : w.heap.size < W.heap.size := (Array.getElem?_eq_some_iff.1 h.box).1
theorem rs_start {w : World} {a : Nat} {s : ByteArray} {at_ : Nat} {err : Int} (h : RdAt 61 w a s at_ err) (c : Array Value) : RS w a s c at_ err (w.alloc (.cells c 35 (0, 0))) :=
  have hb : Below w.heap.size w (w.alloc (.cells c 35 (0, 0))) := (Below.refl _ _).alloc (Nat.le_refl _) _
  ⟨by unfold RdAt; rw [hb.block a (rd_lt h)]; exact h, heap_alloc_new _ _, grown_below hb _, rd_lt h⟩
theorem rs_post {w : World} {a : Nat} {s : ByteArray} {c : Array Value} {at_ : Nat} {err : Int} {W W' : World} {p : Nat × Int} (h : RS w a s c at_ err W) (h1 : RdAt 61 W' a s p.1 p.2) (hg : W.grownBy W' (some a)) : RS w a s c p.1 p.2 W' :=
  ⟨h1, (hg.block _ (rs_size h) (fun e => by have := h.lt; injection e with e; omega)).trans h.box, h.grown.trans hg, h.lt⟩
theorem rs_alloc {w : World} {a : Nat} {s : ByteArray} {c : Array Value} {at_ : Nat} {err : Int} {W : World} (h : RS w a s c at_ err W) (o : Obj) : RS w a s c at_ err (W.alloc o) :=
  have hb : Below W.heap.size W (W.alloc o) := (Below.refl _ _).alloc (Nat.le_refl _) _
  ⟨by unfold RdAt; rw [hb.block a (rd_lt h.rd)]; exact h.rd, (hb.block _ (rs_size h)).trans h.box, h.grown.trans (grown_below hb _), h.lt⟩
theorem rs_set {w : World} {a : Nat} {s : ByteArray} {c : Array Value} {at_ : Nat} {err : Int} {W : World} (h : RS w a s c at_ err W) {k : Nat} (hk : w.heap.size < k) (i : Nat) (v : Value) : RS w a s c at_ err (W.setCell ⟨k, i, none⟩ v) :=
  have hk' : ∀ j, j ≤ w.heap.size → (W.setCell ⟨k, i, none⟩ v).heap[j]? = W.heap[j]? := fun j hj => Below.heap_setCell W ⟨k, i, none⟩ v j (fun e => by simp at e; omega)
  ⟨by unfold RdAt; rw [hk' a (Nat.le_of_lt h.lt)]; exact h.rd, (hk' _ (Nat.le_refl _)).trans h.box,
    ⟨h.grown.os, h.grown.tape, h.grown.output, by have := h.grown.size; simpa [World.setCell] using this, fun j hj hne => (hk' j (Nat.le_of_lt hj)).trans (h.grown.block j hj hne)⟩, h.lt⟩
theorem cb_post {a k : Nat} {W W' : World} {o : Obj} (h : W.heap[k]? = some o) (hg : W.grownBy W' (some a)) (hk : a < k) : W'.heap[k]? = some o :=
  (hg.block _ (Array.getElem?_eq_some_iff.1 h).1 (fun e => by injection e with e; omega)).trans h
theorem ret_chg {f : Func} (hf : f.results = #[.cell 2 35]) {R : Ending → World → Prop} {a : Act} {wf : World} {x y z : Value} {g : Nat}
    (h2 : a.tmps.getD 2 undef = .pointer (some ⟨g, 0, none⟩)) (hd : a.defers = [])
    (hrow : wf.heap[g]? = some (.cells #[x, y, z] 35 (0, 0)))
    (hR : R (.returned (.agg #[x, y, z])) wf) : bodyPost Try.prog f R .ret a wf := by
  have k0 := cell_in hrow 0 _ rfl
  have k1 := cell_in hrow 1 _ rfl
  have k2 := cell_in hrow 2 _ rfl
  have g2 : a.tmps[2]?.getD undef = .pointer (some ⟨g, 0, none⟩) := by simpa using h2
  exact bodyPost_ret (v := .agg #[x, y, z]) (by simp [results, hf, g2, go_sem, k0, k1, k2]) hd hR
theorem row_sets3 {wr : World} {g : Nat} {x y z : Value} (h : wr.heap[g]? = some (.cells #[x, y, z] 35 (0, 0))) (v0 v1 v2 : Value) :
    (((wr.setCell ⟨g, 0, none⟩ v0).setCell ⟨g, 1, none⟩ v1).setCell ⟨g, 2, none⟩ v2).heap[g]? = some (.cells #[v0, v1, v2] 35 (0, 0)) := by
  rw [heap_set (heap_set (heap_set h 0 v0) 1 v1) 2 v2]; rfl
/-- the answer of a call that reads a change -/
def RcPost (w : World) (a : Nat) (s : ByteArray) (r : Chg × Nat × Int) (e : Ending) (w' : World) : Prop :=
  e = .returned r.1.val ∧ RdAt 61 w' a s r.2.1 r.2.2 ∧ w.grownBy w' (some a)
theorem rs_end {w : World} {a : Nat} {s : ByteArray} {c : Array Value} {at_ : Nat} {err : Int} {W : World} (h : RS w a s c at_ err W) (x y z : Value) :
    RdAt 61 (((W.setCell ⟨w.heap.size, 0, none⟩ x).setCell ⟨w.heap.size, 1, none⟩ y).setCell ⟨w.heap.size, 2, none⟩ z) a s at_ err ∧ w.grownBy (((W.setCell ⟨w.heap.size, 0, none⟩ x).setCell ⟨w.heap.size, 1, none⟩ y).setCell ⟨w.heap.size, 2, none⟩ z) (some a) := by
  have hk' : ∀ j, j < w.heap.size → (((W.setCell ⟨w.heap.size, 0, none⟩ x).setCell ⟨w.heap.size, 1, none⟩ y).setCell ⟨w.heap.size, 2, none⟩ z).heap[j]? = W.heap[j]? := fun j hj => by
    rw [Below.heap_setCell _ ⟨w.heap.size, 2, none⟩ z j (fun e => by simp at e; omega), Below.heap_setCell _ ⟨w.heap.size, 1, none⟩ y j (fun e => by simp at e; omega), Below.heap_setCell _ ⟨w.heap.size, 0, none⟩ x j (fun e => by simp at e; omega)]
  refine ⟨by unfold RdAt; rw [hk' a h.lt]; exact h.rd, h.grown.os, h.grown.tape, h.grown.output, ?_, fun j hj hne => (hk' j hj).trans (h.grown.block j hj hne)⟩
  have := h.grown.size
  simpa [World.setCell] using this
theorem rdC_none {L : List UInt8} {at_ : Nat} {err : Int} (h : (dTake L at_ err 1).1 = []) : rdC L at_ err = (⟨0, ⟨#[]⟩, ⟨#[]⟩⟩, (dTake L at_ err 1).2) := by
  unfold rdC; rw [h]
theorem rdC_put {L : List UInt8} {at_ : Nat} {err : Int} {c : UInt8} (h : (dTake L at_ err 1).1 = [c]) (hc : c.toNat = 1) :
    rdC L at_ err = (⟨1, bs (dText L (dTake L at_ err 1).2.1 (dTake L at_ err 1).2.2 200).1, bs (dText L (dText L (dTake L at_ err 1).2.1 (dTake L at_ err 1).2.2 200).2.1 (dText L (dTake L at_ err 1).2.1 (dTake L at_ err 1).2.2 200).2.2 4096).1⟩, (dText L (dText L (dTake L at_ err 1).2.1 (dTake L at_ err 1).2.2 200).2.1 (dText L (dTake L at_ err 1).2.1 (dTake L at_ err 1).2.2 200).2.2 4096).2) := by
  have e1 : c.toNat = 1 ∨ c.toNat = 2 := .inl hc
  unfold rdC; rw [h]; simp only [if_pos e1, if_pos hc]
theorem rdC_del {L : List UInt8} {at_ : Nat} {err : Int} {c : UInt8} (h : (dTake L at_ err 1).1 = [c]) (hc : c.toNat = 2) :
    rdC L at_ err = (⟨2, bs (dText L (dTake L at_ err 1).2.1 (dTake L at_ err 1).2.2 200).1, ⟨#[]⟩⟩, (dText L (dTake L at_ err 1).2.1 (dTake L at_ err 1).2.2 200).2) := by
  have e1 : c.toNat = 1 ∨ c.toNat = 2 := .inr hc
  have e2 : ¬ c.toNat = 1 := by omega
  unfold rdC; rw [h]; simp only [if_pos e1, if_neg e2]; rw [hc]; rfl
theorem rdC_odd {L : List UInt8} {at_ : Nat} {err : Int} {c : UInt8} (h : (dTake L at_ err 1).1 = [c]) (hc : ¬ (c.toNat = 1 ∨ c.toNat = 2)) :
    rdC L at_ err = (⟨c.toNat, bs (dText L (dFail (dTake L at_ err 1).2.1 (dTake L at_ err 1).2.2 11).1 (dFail (dTake L at_ err 1).2.1 (dTake L at_ err 1).2.2 11).2 200).1, ⟨#[]⟩⟩, (dText L (dFail (dTake L at_ err 1).2.1 (dTake L at_ err 1).2.2 11).1 (dFail (dTake L at_ err 1).2.1 (dTake L at_ err 1).2.2 11).2 200).2) := by
  have e2 : ¬ c.toNat = 1 := by omega
  unfold rdC; rw [h]; simp only [if_neg hc, if_neg e2]
theorem read_none {w : World} {a : Nat} {s : ByteArray} {at_ : Nat} {err : Int} (h : RdAt 61 w a s at_ err) (hs : s.size ≤ 1000000) (ha : at_ ≤ s.size) (hn : (dTake s.data.toList at_ err 1).1 = []) :
    Calls Try.prog 22 #[.pointer (some ⟨a, 0, none⟩)] w (RcPost w a s (rdC s.data.toList at_ err)) := by
  rw [rdC_none hn]
  have R0 := rs_start h #[.int .i64 0, .string ⟨#[]⟩, .string ⟨#[]⟩]
  have HT := take_any 1 R0.rd hs ha
  rw [hn] at HT
  generalize (dTake s.data.toList at_ err 1).2 = p at HT ⊢
  replace HT := Lib.hid HT
  replace R0 := Lib.hid R0
  have hbz := bs_size
  have hbl := bs_list
  clear h hn
  go_enter Try.func22, Try.ntmps22
  go_wp2_with (first
    | (go_at_call 31; (with_reducible refine HT.out.mono ?_); rintro e w1 ⟨rfl, h1, g1⟩; have R1 := Lib.hid (rs_post R0.out h1 g1); obtain ⟨k0, k1, k2⟩ := chg_cells R1.out.box; have f0 := free_in R1.out.box; clear h1 g1))
  exact ret_chg rfl rfl rfl (row_sets3 R1.out.box _ _ _) ⟨rfl, rs_end R1.out _ _ _⟩
set_option maxHeartbeats 1000000 in
theorem read_put {w : World} {a : Nat} {s : ByteArray} {at_ : Nat} {err : Int} {c : UInt8} (h : RdAt 61 w a s at_ err) (hs : s.size ≤ 1000000) (ha : at_ ≤ s.size) (hn : (dTake s.data.toList at_ err 1).1 = [c]) (hc : c.toNat = 1) :
    Calls Try.prog 22 #[.pointer (some ⟨a, 0, none⟩)] w (RcPost w a s (rdC s.data.toList at_ err)) := by
  rw [rdC_put hn hc]
  have R0 := rs_start h #[.int .i64 0, .string ⟨#[]⟩, .string ⟨#[]⟩]
  have hlt := R0.lt
  have HT := take_any 1 R0.rd hs ha
  have ha1 := dTake_at (l := s.data.toList) (at_ := at_) (err := err) (n := 1) ha
  rw [hn] at HT
  generalize (dTake s.data.toList at_ err 1).2 = p at HT ha1 ⊢
  have ha2 := dText_at (l := s.data.toList) (at_ := p.1) (err := p.2) (most := 200) ha1
  have X1 := Lib.hid fun (W : World) (h : RdAt 61 W a s p.1 p.2) => rtext_any 200 (by decide) h hs ha1
  generalize dText s.data.toList p.1 p.2 200 = q at X1 ha2 ⊢
  have X2 := Lib.hid fun (W : World) (h : RdAt 61 W a s q.2.1 q.2.2) => rtext_any 4096 (by decide) h hs ha2
  generalize dText s.data.toList q.2.1 q.2.2 4096 = r at X2 ⊢
  obtain ⟨q1, q2⟩ := q
  obtain ⟨r1, r2⟩ := r
  simp only at X1 X2 ha2 ⊢
  replace HT := Lib.hid HT
  replace R0 := Lib.hid R0
  have hbz := bs_size
  have hbl := bs_list
  have hbx : ∀ (c : UInt8) (h : 0 < (bs [c]).size), (bs [c])[0]'h = c := fun _ _ => rfl
  have HK := Lib.hid (known_yes (k := 1) (by omega))
  have hcl : c.toNat < 256 := c.toNat_lt
  clear h hn

  go_enter Try.func22, Try.ntmps22
  go_wp2_with (first
    | (go_at_call 31; (with_reducible refine HT.out.mono ?_); rintro e w1 ⟨rfl, h1, g1⟩; have R1 := Lib.hid (rs_alloc (rs_post R0.out h1 g1) (.cells #[.int .i64 1, .string ⟨#[]⟩, .string ⟨#[]⟩] 35 (0, 0))); have hz1 := rs_size (rs_post R0.out h1 g1); clear h1 g1)
    | (go_at_call 32; (with_reducible refine (HK.out _).mono ?_); rintro e w2 ⟨rfl, rfl⟩)
    | (go_at_call 33; (with_reducible refine (X2.out _ R3.out.rd).mono ?_); rintro e w5 ⟨rfl, h3, g3⟩; have R5 := Lib.hid (rs_set (rs_post R3.out h3 g3) hz1 2 (.string (bs r1))); have R6 := rs_post R3.out h3 g3; have b3 := cb_post B4.out g3 (by omega); obtain ⟨e0, e1, e2⟩ := chg_cells b3; have f5 := free_in b3; obtain ⟨k0, k1, k2⟩ := chg_cells R5.out.box; obtain ⟨k3, k4, k5⟩ := chg_cells R6.box; have k6 := free_in R6.box; clear b3 R6 h3 g3)
    | (go_at_call 33; (with_reducible refine (X1.out _ R1.out.rd).mono ?_); rintro e w3 ⟨rfl, h3, g3⟩; have R3 := Lib.hid (rs_set (rs_post R1.out h3 g3) hz1 1 (.string (bs q1))); have b3 := cb_post (heap_alloc_new w1 _) g3 (by omega); obtain ⟨d0, d1, d2⟩ := chg_cells b3; have f3 := free_in b3; have b4 := heap_set b3 1 (.string (bs q1)); have B4 := Lib.hid b4; clear b3 b4 h3 g3))
  exact ret_chg rfl rfl rfl (row_sets3 R5.out.box _ _ _) ⟨rfl, rs_end R5.out _ _ _⟩
set_option maxHeartbeats 1000000 in
theorem read_del {w : World} {a : Nat} {s : ByteArray} {at_ : Nat} {err : Int} {c : UInt8} (h : RdAt 61 w a s at_ err) (hs : s.size ≤ 1000000) (ha : at_ ≤ s.size) (hn : (dTake s.data.toList at_ err 1).1 = [c]) (hc : c.toNat = 2) :
    Calls Try.prog 22 #[.pointer (some ⟨a, 0, none⟩)] w (RcPost w a s (rdC s.data.toList at_ err)) := by
  rw [rdC_del hn hc]
  have R0 := rs_start h #[.int .i64 0, .string ⟨#[]⟩, .string ⟨#[]⟩]
  have hlt := R0.lt
  have HT := take_any 1 R0.rd hs ha
  have ha1 := dTake_at (l := s.data.toList) (at_ := at_) (err := err) (n := 1) ha
  rw [hn] at HT
  generalize (dTake s.data.toList at_ err 1).2 = p at HT ha1 ⊢
  have ha2 := dText_at (l := s.data.toList) (at_ := p.1) (err := p.2) (most := 200) ha1
  have X1 := Lib.hid fun (W : World) (h : RdAt 61 W a s p.1 p.2) => rtext_any 200 (by decide) h hs ha1
  generalize dText s.data.toList p.1 p.2 200 = q at X1 ha2 ⊢
  obtain ⟨q1, q2⟩ := q
  simp only at X1 ha2 ⊢
  replace HT := Lib.hid HT
  replace R0 := Lib.hid R0
  have hbz := bs_size
  have hbl := bs_list
  have hbx : ∀ (c : UInt8) (h : 0 < (bs [c]).size), (bs [c])[0]'h = c := fun _ _ => rfl
  have HK := Lib.hid (known_yes (k := 2) (by omega))
  have hcl : c.toNat < 256 := c.toNat_lt
  clear h hn

  go_enter Try.func22, Try.ntmps22
  go_wp2_with (first
    | (go_at_call 31; (with_reducible refine HT.out.mono ?_); rintro e w1 ⟨rfl, h1, g1⟩; have R1 := Lib.hid (rs_alloc (rs_post R0.out h1 g1) (.cells #[.int .i64 2, .string ⟨#[]⟩, .string ⟨#[]⟩] 35 (0, 0))); have hz1 := rs_size (rs_post R0.out h1 g1); clear h1 g1)
    | (go_at_call 32; (with_reducible refine (HK.out _).mono ?_); rintro e w2 ⟨rfl, rfl⟩)
    | (go_at_call 33; (with_reducible refine (X1.out _ R1.out.rd).mono ?_); rintro e w3 ⟨rfl, h3, g3⟩; have R3 := Lib.hid (rs_set (rs_post R1.out h3 g3) hz1 1 (.string (bs q1))); have b3 := cb_post (heap_alloc_new w1 _) g3 (by omega); obtain ⟨d0, d1, d2⟩ := chg_cells b3; have f3 := free_in b3; have b4 := heap_set b3 1 (.string (bs q1)); have B4 := Lib.hid b4; obtain ⟨k0, k1, k2⟩ := chg_cells R3.out.box; have R6 := rs_post R1.out h3 g3; obtain ⟨k3, k4, k5⟩ := chg_cells R6.box; have k6 := free_in R6.box; clear R6 b3 b4 h3 g3))
  exact ret_chg rfl rfl rfl (row_sets3 R3.out.box _ _ _) ⟨rfl, rs_end R3.out _ _ _⟩
set_option maxHeartbeats 1000000 in
theorem read_odd {w : World} {a : Nat} {s : ByteArray} {at_ : Nat} {err : Int} {c : UInt8} (h : RdAt 61 w a s at_ err) (hs : s.size ≤ 1000000) (ha : at_ ≤ s.size) (hn : (dTake s.data.toList at_ err 1).1 = [c]) (hc : ¬ (c.toNat = 1 ∨ c.toNat = 2)) :
    Calls Try.prog 22 #[.pointer (some ⟨a, 0, none⟩)] w (RcPost w a s (rdC s.data.toList at_ err)) := by
  rw [rdC_odd hn hc]
  have R0 := rs_start h #[.int .i64 0, .string ⟨#[]⟩, .string ⟨#[]⟩]
  have hlt := R0.lt
  have HT := take_any 1 R0.rd hs ha
  have ha1 := dTake_at (l := s.data.toList) (at_ := at_) (err := err) (n := 1) ha
  rw [hn] at HT
  generalize (dTake s.data.toList at_ err 1).2 = p at HT ha1 ⊢
  have hf := dFail_at p.1 p.2 11
  have X0 := Lib.hid fun (W : World) (h : RdAt 61 W a s p.1 p.2) => fail_any 11 h
  generalize dFail p.1 p.2 11 = d at hf X0 ⊢
  rw [← hf] at ha1
  have ha2 := dText_at (l := s.data.toList) (at_ := d.1) (err := d.2) (most := 200) ha1
  have X1 := Lib.hid fun (W : World) (h : RdAt 61 W a s d.1 d.2) => rtext_any 200 (by decide) h hs ha1
  generalize dText s.data.toList d.1 d.2 200 = q at X1 ha2 ⊢
  obtain ⟨q1, q2⟩ := q
  simp only at X1 ha2 ⊢
  replace HT := Lib.hid HT
  replace R0 := Lib.hid R0
  have hbz := bs_size
  have hbl := bs_list
  have hbx : ∀ (c : UInt8) (h : 0 < (bs [c]).size), (bs [c])[0]'h = c := fun _ _ => rfl
  have HK := Lib.hid (known_no (k := (c.toNat : Int)) (by omega))
  have hcl : c.toNat < 256 := c.toNat_lt
  clear h hn
  have hc1 : ((c.toNat : Int) == 1) = false := by simp; omega
  replace hc := Lib.hid hc

  go_enter Try.func22, Try.ntmps22
  go_wp2_with (first
    | (go_at_call 31; (with_reducible refine HT.out.mono ?_); rintro e w1 ⟨rfl, h1, g1⟩; have R1 := Lib.hid (rs_alloc (rs_post R0.out h1 g1) (.cells #[.int .i64 c.toNat, .string ⟨#[]⟩, .string ⟨#[]⟩] 35 (0, 0))); have hz1 := rs_size (rs_post R0.out h1 g1); clear h1 g1)
    | (go_at_call 32; (with_reducible refine (HK.out _).mono ?_); rintro e w2 ⟨rfl, rfl⟩)
    | (go_at_call 20; (with_reducible refine (X0.out _ R1.out.rd).mono ?_); rintro e w2 ⟨rfl, h2, g2⟩; have R2 := Lib.hid (rs_post R1.out h2 g2); have B2 := Lib.hid (cb_post (heap_alloc_new w1 _) g2 (by omega)); clear h2 g2)
    | (go_at_call 33; (with_reducible refine (X1.out _ R2.out.rd).mono ?_); rintro e w3 ⟨rfl, h3, g3⟩; have R3 := Lib.hid (rs_set (rs_post R2.out h3 g3) hz1 1 (.string (bs q1))); have b3 := cb_post B2.out g3 (by omega); obtain ⟨d0, d1, d2⟩ := chg_cells b3; have f3 := free_in b3; have b4 := heap_set b3 1 (.string (bs q1)); have B4 := Lib.hid b4; obtain ⟨k0, k1, k2⟩ := chg_cells R3.out.box; have R6 := rs_post R2.out h3 g3; obtain ⟨k3, k4, k5⟩ := chg_cells R6.box; have k6 := free_in R6.box; clear R6 b3 b4 h3 g3))
  exact ret_chg rfl rfl rfl (row_sets3 R3.out.box _ _ _) ⟨rfl, rs_end R3.out _ _ _⟩
theorem dTake_one {l : List UInt8} {at_ : Nat} {err : Int} : (dTake l at_ err 1).1.length ≤ 1 := by
  by_cases he : err = 0
  · subst he
    by_cases hc : (1 : Int) ≤ (l.length : Int) - at_
    · rw [dTake_ok (by omega) hc]; simp; omega
    · rw [dTake_short (.inr (by omega))]; simp
  · rw [dTake_bad he]; simp
theorem read_any {w : World} {a : Nat} {s : ByteArray} {at_ : Nat} {err : Int} (h : RdAt 61 w a s at_ err) (hs : s.size ≤ 1000000) (ha : at_ ≤ s.size) :
    Calls Try.prog 22 #[.pointer (some ⟨a, 0, none⟩)] w (RcPost w a s (rdC s.data.toList at_ err)) := by
  have hl := dTake_one (l := s.data.toList) (at_ := at_) (err := err)
  match hn : (dTake s.data.toList at_ err 1).1 with
  | [] => exact read_none h hs ha hn
  | [c] =>
    by_cases h1 : c.toNat = 1
    · exact read_put h hs ha hn h1
    · by_cases h2 : c.toNat = 2
      · exact read_del h hs ha hn h2
      · exact read_odd h hs ha hn (by omega)
  | c :: d :: r => rw [hn] at hl; simp at hl
end Go.Proofs.Ytbolklpdbckefaa.Ba
