/-
  The Go text of a market's keys, walked: what a key is of. Conditions: as each theorem states.
-/
import Derived.Test.YtelbhegkaihjhaaDoorScD
namespace Go.Proofs.YtelbhegkaihjhaaDoor
open Go.RowKit
open Vi

/-- what Parse answers -/
def thOut (o : Option Th) : Value := match o with
  | none => .tuple #[.agg #[.string ⟨#[]⟩, .int .u64 0, .int .u64 0, .int .i64 0, .int .i64 0, .int .u64 0, .int .u64 0, .string ⟨#[]⟩], .int .i64 19]
  | some t => .tuple #[.agg #[.string t.sort, .int .u64 t.acct, .int .u64 t.id, .int .i64 t.kind, .int .i64 t.price, .int .u64 t.rank, .int .u64 t.time, .string t.name], .int .i64 0]
theorem ret_thing {f : Func} {a : Act} {wf : World} {g : Nat} {e : Int} {R : Ending → World → Prop} (x : Th) (hf : f.results = #[.cell 2 24, .tmp 3])
    (h2 : a.tmps.getD 2 undef = .pointer (some ⟨g, 0, none⟩)) (h3 : a.tmps.getD 3 undef = .int .i64 e) (hd : a.defers = [])
    (hrow : wf.heap[g]? = some (.cells x.cells 24 (0, 0)))
    (hR : R (.returned (.tuple #[.agg #[.string x.sort, .int .u64 x.acct, .int .u64 x.id, .int .i64 x.kind, .int .i64 x.price, .int .u64 x.rank, .int .u64 x.time, .string x.name], .int .i64 e])) wf) : bodyPost Tryd.prog f R .ret a wf := by
  obtain ⟨k0, k1, k2, k3, k4, k5, k6, k7⟩ := eight_cells hrow
  have g2 : a.tmps[2]?.getD undef = .pointer (some ⟨g, 0, none⟩) := by simpa using h2
  have g3 : a.tmps[3]?.getD undef = .int .i64 e := by simpa using h3
  exact bodyPost_ret (v := .tuple #[.agg #[.string x.sort, .int .u64 x.acct, .int .u64 x.id, .int .i64 x.kind, .int .i64 x.price, .int .u64 x.rank, .int .u64 x.time, .string x.name], .int .i64 e]) (by simp [results, hf, g2, g3, go_sem, k0, k1, k2, k3, k4, k5, k6, k7]) hd hR
theorem parts_err {w : World} (K : List UInt8) (hK : K.length ≤ 1000) (h : 200 < K.length ∨ pparts K = none) (m : Int) (hm : Cell0 m w) :
    Calls Tryd.prog 23 #[.string (bs K)] w fun e w' => e = .returned (.tuple #[.slice none 0 0, .int .i64 19]) ∧ Below w.heap.size w w' := by
  refine (parts_any K hK m hm).mono ?_
  rintro e w' ⟨h1, hb⟩
  refine ⟨?_, hb⟩
  rcases h1 with ⟨v, a, _, h2, h3, _⟩ | ⟨h1, _⟩
  · rcases h with h | h
    · omega
    · rw [h] at h3; cases h3
  · exact h1
theorem parts_is {w : World} (K : List UInt8) (hK : K.length ≤ 200) (a : List KPart) (h : pparts K = some a) (m : Int) (hm : Cell0 m w) :
    Calls Tryd.prog 23 #[.string (bs K)] w fun e w' => (∃ A c, e = .returned (.tuple #[.slice A a.length c, .int .i64 0]) ∧ PRow w' A a) ∧ Below w.heap.size w w' := by
  refine (parts_any K (by omega) m hm).mono ?_
  rintro e w' ⟨h1, hb⟩
  refine ⟨?_, hb⟩
  rcases h1 with ⟨v, a', rfl, _, hq', hown⟩ | ⟨_, h1 | h1⟩
  · rw [h] at hq'
    injection hq' with hq'
    subst hq'
    obtain ⟨A', c', rfl, hpr⟩ := prow_of_owns hown
    exact ⟨A', c', rfl, hpr⟩
  · omega
  · rw [h] at h1; cases h1
def sets8 (W : World) (g : Nat) (v0 v1 v2 v3 v4 v5 v6 v7 : Value) : World := (((((((W.setCell ⟨g, 0, none⟩ v0).setCell ⟨g, 1, none⟩ v1).setCell ⟨g, 2, none⟩ v2).setCell ⟨g, 3, none⟩ v3).setCell ⟨g, 4, none⟩ v4).setCell ⟨g, 5, none⟩ v5).setCell ⟨g, 6, none⟩ v6).setCell ⟨g, 7, none⟩ v7
theorem eight_set {W : World} {g : Nat} {t : TypeId} {x0 x1 x2 x3 x4 x5 x6 x7 : Value} (h : W.heap[g]? = some (.cells #[x0, x1, x2, x3, x4, x5, x6, x7] t (0, 0))) (v0 v1 v2 v3 v4 v5 v6 v7 : Value) :
    (sets8 W g v0 v1 v2 v3 v4 v5 v6 v7).heap[g]? = some (.cells #[v0, v1, v2, v3, v4, v5, v6, v7] t (0, 0)) := by
  have h0 : (W.setCell ⟨g, 0, none⟩ v0).heap[g]? = some (.cells #[v0, x1, x2, x3, x4, x5, x6, x7] t (0, 0)) := heap_set h 0 v0
  have h1 : ((W.setCell ⟨g, 0, none⟩ v0).setCell ⟨g, 1, none⟩ v1).heap[g]? = some (.cells #[v0, v1, x2, x3, x4, x5, x6, x7] t (0, 0)) := heap_set h0 1 v1
  have h2 : (((W.setCell ⟨g, 0, none⟩ v0).setCell ⟨g, 1, none⟩ v1).setCell ⟨g, 2, none⟩ v2).heap[g]? = some (.cells #[v0, v1, v2, x3, x4, x5, x6, x7] t (0, 0)) := heap_set h1 2 v2
  have h3 : ((((W.setCell ⟨g, 0, none⟩ v0).setCell ⟨g, 1, none⟩ v1).setCell ⟨g, 2, none⟩ v2).setCell ⟨g, 3, none⟩ v3).heap[g]? = some (.cells #[v0, v1, v2, v3, x4, x5, x6, x7] t (0, 0)) := heap_set h2 3 v3
  have h4 : (((((W.setCell ⟨g, 0, none⟩ v0).setCell ⟨g, 1, none⟩ v1).setCell ⟨g, 2, none⟩ v2).setCell ⟨g, 3, none⟩ v3).setCell ⟨g, 4, none⟩ v4).heap[g]? = some (.cells #[v0, v1, v2, v3, v4, x5, x6, x7] t (0, 0)) := heap_set h3 4 v4
  have h5 : ((((((W.setCell ⟨g, 0, none⟩ v0).setCell ⟨g, 1, none⟩ v1).setCell ⟨g, 2, none⟩ v2).setCell ⟨g, 3, none⟩ v3).setCell ⟨g, 4, none⟩ v4).setCell ⟨g, 5, none⟩ v5).heap[g]? = some (.cells #[v0, v1, v2, v3, v4, v5, x6, x7] t (0, 0)) := heap_set h4 5 v5
  have h6 : (((((((W.setCell ⟨g, 0, none⟩ v0).setCell ⟨g, 1, none⟩ v1).setCell ⟨g, 2, none⟩ v2).setCell ⟨g, 3, none⟩ v3).setCell ⟨g, 4, none⟩ v4).setCell ⟨g, 5, none⟩ v5).setCell ⟨g, 6, none⟩ v6).heap[g]? = some (.cells #[v0, v1, v2, v3, v4, v5, v6, x7] t (0, 0)) := heap_set h5 6 v6
  have h7 : ((((((((W.setCell ⟨g, 0, none⟩ v0).setCell ⟨g, 1, none⟩ v1).setCell ⟨g, 2, none⟩ v2).setCell ⟨g, 3, none⟩ v3).setCell ⟨g, 4, none⟩ v4).setCell ⟨g, 5, none⟩ v5).setCell ⟨g, 6, none⟩ v6).setCell ⟨g, 7, none⟩ v7).heap[g]? = some (.cells #[v0, v1, v2, v3, v4, v5, v6, v7] t (0, 0)) := heap_set h6 7 v7
  exact h7
theorem eight_below {w W : World} {g : Nat} (h : Below w.heap.size w W) (hg : w.heap.size ≤ g) (v0 v1 v2 v3 v4 v5 v6 v7 : Value) : Below w.heap.size w (sets8 W g v0 v1 v2 v3 v4 v5 v6 v7) :=
  (((((((h.setCell hg v0).setCell hg v1).setCell hg v2).setCell hg v3).setCell hg v4).setCell hg v5).setCell hg v6).setCell hg v7
theorem zero_row {w w1 : World} (hb : Below (w.alloc (.cells #[.string ⟨#[]⟩, .int .u64 0, .int .u64 0, .int .i64 0, .int .i64 0, .int .u64 0, .int .u64 0, .string ⟨#[]⟩] 24)).heap.size (w.alloc (.cells #[.string ⟨#[]⟩, .int .u64 0, .int .u64 0, .int .i64 0, .int .i64 0, .int .u64 0, .int .u64 0, .string ⟨#[]⟩] 24)) w1) :
    w1.heap[w.heap.size]? = some (.cells (Th.zero ⟨#[]⟩).cells 24 (0, 0)) := (hb.block w.heap.size (by simp)).trans (heap_alloc_new w _)
theorem alloc_below {w w1 : World} {o : Obj} (hb : Below (w.alloc o).heap.size (w.alloc o) w1) : Below w.heap.size w w1 := ((Below.refl _ _).alloc (Nat.le_refl _) o).trans (hb.mono (by simp))
set_option maxRecDepth 100000 in
set_option maxHeartbeats 4000000 in
theorem parse_bad {w : World} (K : List UInt8) (hK : K.length ≤ 1000) (m : Int) (hm : Cell0 m w) (h : 200 < K.length ∨ pparts K = none) :
    Calls Tryd.prog 10 #[.string (bs K)] w fun e w' => e = .returned (thOut none) ∧ Below w.heap.size w w' := by
  have HP := Lib.hid fun (W : World) (h1 : Cell0 m W) => parts_err (w := W) K hK h m h1
  have HM := Lib.hid (cell0_alloc hm (.cells #[.string ⟨#[]⟩, .int .u64 0, .int .u64 0, .int .i64 0, .int .i64 0, .int .u64 0, .int .u64 0, .string ⟨#[]⟩] 24 (0, 0)))
  clear hm h
  go_enter Tryd.func10, Tryd.ntmps10
  go_wp2_with (go_at_call 23; (with_reducible refine (HP.out _ HM.out).mono ?_); rintro e w1 ⟨rfl, hb⟩; have R1 := zero_row hb; have hwl := (Array.getElem?_eq_some_iff.1 R1).1; have B1 := Lib.hid (alloc_below hb); obtain ⟨c0, c1, c2, c3, c4, c5, c6, c7⟩ := eight_cells R1; have f0 := free_in R1 0; have f1 := free_in R1 1; have f2 := free_in R1 2; have f3 := free_in R1 3; have f4 := free_in R1 4; have f5 := free_in R1 5; have f6 := free_in R1 6; have f7 := free_in R1 7; replace R1 := Lib.hid R1; clear hb)
  exact ret_thing (Th.zero ⟨#[]⟩) rfl rfl rfl rfl (eight_set R1.out _ _ _ _ _ _ _ _) ⟨rfl, eight_below B1.out (Nat.le_refl _) _ _ _ _ _ _ _ _⟩
set_option maxRecDepth 100000 in
set_option maxHeartbeats 4000000 in
theorem parse_none {w : World} (K : List UInt8) (hK : K.length ≤ 200) (m : Int) (hm : Cell0 m w) (h : pparts K = some []) :
    Calls Tryd.prog 10 #[.string (bs K)] w fun e w' => e = .returned (thOut none) ∧ Below w.heap.size w w' := by
  have HP := Lib.hid fun (W : World) (h1 : Cell0 m W) => parts_is (w := W) K hK [] h m h1
  have HM := Lib.hid (cell0_alloc hm (.cells #[.string ⟨#[]⟩, .int .u64 0, .int .u64 0, .int .i64 0, .int .i64 0, .int .u64 0, .int .u64 0, .string ⟨#[]⟩] 24 (0, 0)))
  clear hm h
  go_enter Tryd.func10, Tryd.ntmps10
  go_wp2_with (go_at_call 23; (with_reducible refine (HP.out _ HM.out).mono ?_); rintro e w1 ⟨⟨A, c, rfl, _⟩, hb⟩; have R1 := zero_row hb; have hwl := (Array.getElem?_eq_some_iff.1 R1).1; have B1 := Lib.hid (alloc_below hb); obtain ⟨c0, c1, c2, c3, c4, c5, c6, c7⟩ := eight_cells R1; have f0 := free_in R1 0; have f1 := free_in R1 1; have f2 := free_in R1 2; have f3 := free_in R1 3; have f4 := free_in R1 4; have f5 := free_in R1 5; have f6 := free_in R1 6; have f7 := free_in R1 7; replace R1 := Lib.hid R1; clear hb)
  exact ret_thing (Th.zero ⟨#[]⟩) rfl rfl rfl rfl (eight_set R1.out _ _ _ _ _ _ _ _) ⟨rfl, eight_below B1.out (Nat.le_refl _) _ _ _ _ _ _ _ _⟩
/-- the cells of the part at a place of a row that lies in a block -/
def PAt (W : World) (g : Nat) (l : List KPart) : Prop := g < W.heap.size ∧ ∀ i (h : i < l.length), W.cell? ⟨g, i * 4, none⟩ = some (.int .u8 l[i].sort) ∧ W.cell? ⟨g, i * 4 + 1, none⟩ = some (.int .i64 l[i].n) ∧ W.cell? ⟨g, i * 4 + 2, none⟩ = some (.int .u64 l[i].u) ∧ W.cell? ⟨g, i * 4 + 3, none⟩ = some (.string l[i].s)
theorem pat_on {W W' : World} {g : Nat} {l : List KPart} (h : PAt W g l) (hk : ∀ q : Addr, q.block = g → W'.cell? q = W.cell? q) (hs : W.heap.size ≤ W'.heap.size) : PAt W' g l :=
  ⟨Nat.lt_of_lt_of_le h.1 hs, fun i hi => by obtain ⟨a, b, c, d⟩ := h.2 i hi; exact ⟨(hk _ rfl).trans a, (hk _ rfl).trans b, (hk _ rfl).trans c, (hk _ rfl).trans d⟩⟩
theorem pat_below {W W' : World} {g : Nat} {l : List KPart} (h : PAt W g l) (hb : Below W.heap.size W W') : PAt W' g l :=
  pat_on h (fun q hq => hb.cell (by rw [hq]; exact h.1)) hb.size
theorem parts_at {w : World} (K : List UInt8) (hK : K.length ≤ 200) (p : KPart) (l : List KPart) (h : pparts K = some (p :: l)) (m : Int) (hm : Cell0 m w) :
    Calls Tryd.prog 23 #[.string (bs K)] w fun e w' => (∃ g c, e = .returned (.tuple #[.slice (some ⟨g, 0, none⟩) (l.length + 1) c, .int .i64 0]) ∧ w.heap.size ≤ g ∧ PAt w' g (p :: l)) ∧ Below w.heap.size w w' := by
  refine (parts_any K (by omega) m hm).mono ?_
  rintro e w' ⟨h1, hb⟩
  refine ⟨?_, hb⟩
  rcases h1 with ⟨v, a', rfl, _, hq', hown⟩ | ⟨_, h1 | h1⟩
  · rw [h] at hq'
    injection hq' with hq'
    subst hq'
    obtain ⟨g, c, rfl, hbg, hlt⟩ := hown.form (by simp)
    obtain ⟨A', c', e1, hpr⟩ := prow_of_owns hown
    injection e1 with e1 _ _
    subst e1
    obtain ⟨a, e2, _, hc⟩ := hpr (by simp)
    injection e2 with e2
    subst e2
    refine ⟨g, c, rfl, hbg, hlt, fun i hi => ?_⟩
    have := hc i hi
    rw [add_flat] at this
    exact this
  · omega
  · rw [h] at h1; cases h1
theorem off_end {w w1 : World} (R : w1.heap[w.heap.size]? = some (.cells (Th.zero ⟨#[]⟩).cells 24 (0, 0))) (B : Below w.heap.size w w1) (o : Obj) :
    ((sets8 w1 w.heap.size (.string ⟨#[]⟩) (.int .u64 0) (.int .u64 0) (.int .i64 0) (.int .i64 0) (.int .u64 0) (.int .u64 0) (.string ⟨#[]⟩)).alloc o).drew.heap[w.heap.size]? = some (.cells (Th.zero ⟨#[]⟩).cells 24 (0, 0)) ∧
    Below w.heap.size w ((sets8 w1 w.heap.size (.string ⟨#[]⟩) (.int .u64 0) (.int .u64 0) (.int .i64 0) (.int .i64 0) (.int .u64 0) (.int .u64 0) (.string ⟨#[]⟩)).alloc o).drew := by
  have h := eight_below B (Nat.le_refl _) (.string ⟨#[]⟩) (.int .u64 0) (.int .u64 0) (.int .i64 0) (.int .i64 0) (.int .u64 0) (.int .u64 0) (.string ⟨#[]⟩)
  have R' : w1.heap[w.heap.size]? = some (.cells #[.string ⟨#[]⟩, .int .u64 0, .int .u64 0, .int .i64 0, .int .i64 0, .int .u64 0, .int .u64 0, .string ⟨#[]⟩] 24 (0, 0)) := R
  have e := eight_set R' (.string ⟨#[]⟩) (.int .u64 0) (.int .u64 0) (.int .i64 0) (.int .i64 0) (.int .u64 0) (.int .u64 0) (.string ⟨#[]⟩)
  generalize sets8 w1 w.heap.size (.string ⟨#[]⟩) (.int .u64 0) (.int .u64 0) (.int .i64 0) (.int .i64 0) (.int .u64 0) (.int .u64 0) (.string ⟨#[]⟩) = W at e h ⊢
  have e2 := heap_old e o
  exact ⟨e2, (h.alloc h.size o).drew⟩
structure SX (w1 : World) (g : Nat) (p : KPart) (wx : World) : Prop where
  lt : g < w1.heap.size
  cell : wx.cell? ⟨g, 3, none⟩ = some (.string p.s)
  below : Below w1.heap.size w1 wx
theorem sx_cell {w1 wx : World} {g : Nat} {p : KPart} (h : SX w1 g p wx) : wx.cell? ⟨g, 3, none⟩ = some (.string p.s) := h.cell
theorem sx_alloc {w1 wx : World} {g : Nat} {p : KPart} (h : SX w1 g p wx) (o : Obj) : SX w1 g p (wx.alloc o) :=
  ⟨h.lt, (((Below.refl _ _).alloc (Nat.le_refl _) o).cell (p := ⟨g, 3, none⟩) (Nat.lt_of_lt_of_le h.lt h.below.size)).trans h.cell, h.below.alloc h.below.size o⟩
theorem sx_drew {w1 wx : World} {g : Nat} {p : KPart} (h : SX w1 g p wx) : SX w1 g p wx.drew := ⟨h.lt, h.cell, h.below.drew⟩
set_option maxRecDepth 100000 in
set_option maxHeartbeats 4000000 in
theorem parse_noform {w : World} (K : List UInt8) (hK : K.length ≤ 200) (m : Int) (hm : Cell0 m w) (p : KPart) (l : List KPart) (h : pparts K = some (p :: l)) (hf : formK p.s = []) :
    Calls Tryd.prog 10 #[.string (bs K)] w fun e w' => e = .returned (thOut none) ∧ Below w.heap.size w w' := by
  have HP := Lib.hid fun (W : World) (h1 : Cell0 m W) => parts_at (w := W) K hK p l h m h1
  have HM := Lib.hid (cell0_alloc hm (.cells #[.string ⟨#[]⟩, .int .u64 0, .int .u64 0, .int .i64 0, .int .i64 0, .int .u64 0, .int .u64 0, .string ⟨#[]⟩] 24 (0, 0)))
  have SH : Hid (∀ W : World, Calls Tryd.prog 24 #[.string p.s] W fun e w' => e = .returned (.string (bs [])) ∧ W = w') := fun W => by have := shape_any p.s W; rw [hf] at this; exact this
  have hbl := bs_list
  clear hm h hf
  go_enter Tryd.func10, Tryd.ntmps10
  go_wp2_with (go_at_call 23; (with_reducible refine (HP.out _ HM.out).mono ?_); rintro e w1 ⟨⟨g, c, rfl, hgw, hpr⟩, hb⟩; obtain ⟨x0, x1, x2, x3⟩ := hpr.2 0 (by simp); have X3 : w1.cell? ⟨g, 3, none⟩ = some (.string p.s) := x3; have hlt := hpr.1; replace hpr := Lib.hid hpr; clear x0 x1 x2 x3; have R1 := zero_row hb; have hwl := (Array.getElem?_eq_some_iff.1 R1).1; have B1 := Lib.hid (alloc_below hb); obtain ⟨c0, c1, c2, c3, c4, c5, c6, c7⟩ := eight_cells R1; have f0 := free_in R1 0; have f1 := free_in R1 1; have f2 := free_in R1 2; have f3 := free_in R1 3; have f4 := free_in R1 4; have f5 := free_in R1 5; have f6 := free_in R1 6; have f7 := free_in R1 7; replace R1 := Lib.hid R1; clear hb)
  have X0 : SX w1 g p w1 := ⟨hlt, X3, Below.refl _ _⟩
  go_region_held3 (fun wx => SX w1 g p wx ∧ wx.cell? ⟨g, 3, none⟩ = some (.string p.s)) (first | exact ⟨X0, X3⟩ | exact ⟨sx_drew X0, X3⟩ | exact ⟨sx_drew (sx_alloc X0 _), sx_cell (sx_drew (sx_alloc X0 _))⟩) ((go_at_call 24; (with_reducible refine (SH.out _).mono ?_); rintro e w2 ⟨rfl, rfl⟩))
  all_goals
    go_wp2
    exact ret_thing (Th.zero ⟨#[]⟩) rfl rfl rfl rfl (off_end R1.out B1.out _).1 ⟨rfl, (off_end R1.out B1.out _).2⟩
set_option maxRecDepth 100000 in
set_option maxHeartbeats 4000000 in
theorem parse_length {w : World} (K : List UInt8) (hK : K.length ≤ 200) (m : Int) (hm : Cell0 m w) (p : KPart) (l : List KPart) (h : pparts K = some (p :: l)) (F : List UInt8) (hf : formK p.s = F) (h0 : ¬ F = []) (hl : l.length ≠ F.length) :
    Calls Tryd.prog 10 #[.string (bs K)] w fun e w' => e = .returned (thOut none) ∧ Below w.heap.size w w' := by
  have HP := Lib.hid fun (W : World) (h1 : Cell0 m W) => parts_at (w := W) K hK p l h m h1
  have HM := Lib.hid (cell0_alloc hm (.cells #[.string ⟨#[]⟩, .int .u64 0, .int .u64 0, .int .i64 0, .int .i64 0, .int .u64 0, .int .u64 0, .string ⟨#[]⟩] 24 (0, 0)))
  have SH : Hid (∀ W : World, Calls Tryd.prog 24 #[.string p.s] W fun e w' => e = .returned (.string (bs F)) ∧ W = w') := fun W => by have := shape_any p.s W; rw [hf] at this; exact this
  have hbl := bs_list
  have hbz := bs_size
  have hF4 : F.length ≤ 4 := by rw [← hf]; exact formK_len _
  have h0b : (F == []) = false := by cases F with | nil => exact absurd rfl h0 | cons => rfl
  have hne : (((l.length : Int) + 1) != 1 + (F.length : Int)) = true := by simp; omega
  clear hm h hf h0 hl
  go_enter Tryd.func10, Tryd.ntmps10
  go_wp2_with (go_at_call 23; (with_reducible refine (HP.out _ HM.out).mono ?_); rintro e w1 ⟨⟨g, c, rfl, hgw, hpr⟩, hb⟩; obtain ⟨x0, x1, x2, x3⟩ := hpr.2 0 (by simp); have X3 : w1.cell? ⟨g, 3, none⟩ = some (.string p.s) := x3; have hlt := hpr.1; replace hpr := Lib.hid hpr; clear x0 x1 x2 x3; have R1 := zero_row hb; have hwl := (Array.getElem?_eq_some_iff.1 R1).1; have B1 := Lib.hid (alloc_below hb); obtain ⟨c0, c1, c2, c3, c4, c5, c6, c7⟩ := eight_cells R1; have f0 := free_in R1 0; have f1 := free_in R1 1; have f2 := free_in R1 2; have f3 := free_in R1 3; have f4 := free_in R1 4; have f5 := free_in R1 5; have f6 := free_in R1 6; have f7 := free_in R1 7; replace R1 := Lib.hid R1; clear hb)
  have X0 : SX w1 g p w1 := ⟨hlt, X3, Below.refl _ _⟩
  go_region_held3 (fun wx => SX w1 g p wx ∧ wx.cell? ⟨g, 3, none⟩ = some (.string p.s)) (first | exact ⟨X0, X3⟩ | exact ⟨sx_drew X0, X3⟩ | exact ⟨sx_drew (sx_alloc X0 _), sx_cell (sx_drew (sx_alloc X0 _))⟩) ((go_at_call 24; (with_reducible refine (SH.out _).mono ?_); rintro e w2 ⟨rfl, rfl⟩))
  all_goals
    go_wp2
    exact ret_thing (Th.zero ⟨#[]⟩) rfl rfl rfl rfl (off_end R1.out B1.out _).1 ⟨rfl, (off_end R1.out B1.out _).2⟩
end Go.Proofs.YtelbhegkaihjhaaDoor
