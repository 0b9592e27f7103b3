/-
  The document's keys of a market, walked: what its Parse needs. Conditions: as each theorem states.
-/
import Derived.Test.YtelbhegkaihjhaaDoorScH
namespace Go.Proofs.YtelbhegkaihjhaaDoor
open Go.RowKit
open Vi

theorem rret_thing {f : Func} {a : Act} {wf : World} {g : Nat} {e : Int} {R : Ending → World → Prop} (x : Th) (hf : f.results = #[.cell 2 26, .tmp 3])
    (h2 : a.tmps.getD 2 undef = .pointer (some ⟨g, 0, none⟩)) (h3 : a.tmps.getD 3 undef = .int .i64 e) (hd : a.defers = [])
    (hrow : wf.heap[g]? = some (.cells x.cells 26 (0, 0)))
    (hR : R (.returned (.tuple #[.agg #[.string x.sort, .int .u64 x.acct, .int .u64 x.id, .int .i64 x.kind, .int .i64 x.price, .int .u64 x.rank, .int .u64 x.time, .string x.name], .int .i64 e])) wf) : bodyPost Tryd.prog f R .ret a wf := by
  obtain ⟨k0, k1, k2, k3, k4, k5, k6, k7⟩ := eight_cells hrow
  have g2 : a.tmps[2]?.getD undef = .pointer (some ⟨g, 0, none⟩) := by simpa using h2
  have g3 : a.tmps[3]?.getD undef = .int .i64 e := by simpa using h3
  exact bodyPost_ret (v := .tuple #[.agg #[.string x.sort, .int .u64 x.acct, .int .u64 x.id, .int .i64 x.kind, .int .i64 x.price, .int .u64 x.rank, .int .u64 x.time, .string x.name], .int .i64 e]) (by simp [results, hf, g2, g3, go_sem, k0, k1, k2, k3, k4, k5, k6, k7]) hd hR
theorem rparts_err {w : World} (K : List UInt8) (hK : K.length ≤ 1000) (h : 200 < K.length ∨ pparts K = none) :
    Calls Tryd.prog 27 #[.string (bs K)] w fun e w' => e = .returned (.tuple #[.slice none 0 0, .int .i64 19]) ∧ Below w.heap.size w w' := by
  refine (rparts_any K hK).mono ?_
  rintro e w' ⟨h1, hb⟩
  refine ⟨?_, hb⟩
  rcases h1 with ⟨v, a, _, h2, h3, _⟩ | ⟨h1, _⟩
  · rcases h with h | h
    · omega
    · rw [h] at h3; cases h3
  · exact h1
theorem rparts_at {w : World} (K : List UInt8) (hK : K.length ≤ 200) (l : List KPart) (h : pparts K = some l) :
    Calls Tryd.prog 27 #[.string (bs K)] w fun e w' => (∃ A c, e = .returned (.tuple #[.slice A l.length c, .int .i64 0]) ∧ (0 < l.length → ∃ g, A = some ⟨g, 0, none⟩ ∧ PAt w' g l)) ∧ Below w.heap.size w w' := by
  refine (rparts_any K (by omega)).mono ?_
  rintro e w' ⟨h1, hb⟩
  refine ⟨?_, hb⟩
  rcases h1 with ⟨v, a', rfl, _, hq', hown⟩ | ⟨_, h1 | h1⟩
  · rw [h] at hq'
    injection hq' with hq'
    subst hq'
    obtain ⟨A', c', rfl, hpr⟩ := rprow_of_owns hown
    refine ⟨A', c', rfl, fun h0 => ?_⟩
    obtain ⟨g, c2, e1, hbg, hlt⟩ := hown.form h0
    injection e1 with e1 _ _
    subst e1
    obtain ⟨a, e2, _, hc⟩ := hpr h0
    injection e2 with e2
    subst e2
    refine ⟨g, rfl, hlt, fun i hi => ?_⟩
    have := hc i hi
    rw [add_flat] at this
    exact this
  · omega
  · rw [h] at h1; cases h1
theorem rzero_row {w w1 : World} (hb : Below (w.alloc (.cells #[.string ⟨#[]⟩, .int .u64 0, .int .u64 0, .int .i64 0, .int .i64 0, .int .u64 0, .int .u64 0, .string ⟨#[]⟩] 26)).heap.size (w.alloc (.cells #[.string ⟨#[]⟩, .int .u64 0, .int .u64 0, .int .i64 0, .int .i64 0, .int .u64 0, .int .u64 0, .string ⟨#[]⟩] 26)) w1) :
    w1.heap[w.heap.size]? = some (.cells (Th.zero ⟨#[]⟩).cells 26 (0, 0)) := (hb.block w.heap.size (by simp)).trans (heap_alloc_new w _)
theorem roff_end {w w1 : World} (R : w1.heap[w.heap.size]? = some (.cells (Th.zero ⟨#[]⟩).cells 26 (0, 0))) (B : Below w.heap.size w w1) (o : Obj) :
    ((sets8 w1 w.heap.size (.string ⟨#[]⟩) (.int .u64 0) (.int .u64 0) (.int .i64 0) (.int .i64 0) (.int .u64 0) (.int .u64 0) (.string ⟨#[]⟩)).alloc o).heap[w.heap.size]? = some (.cells (Th.zero ⟨#[]⟩).cells 26 (0, 0)) ∧
    Below w.heap.size w ((sets8 w1 w.heap.size (.string ⟨#[]⟩) (.int .u64 0) (.int .u64 0) (.int .i64 0) (.int .i64 0) (.int .u64 0) (.int .u64 0) (.string ⟨#[]⟩)).alloc o) := by
  have h := eight_below B (Nat.le_refl _) (.string ⟨#[]⟩) (.int .u64 0) (.int .u64 0) (.int .i64 0) (.int .i64 0) (.int .u64 0) (.int .u64 0) (.string ⟨#[]⟩)
  have R' : w1.heap[w.heap.size]? = some (.cells #[.string ⟨#[]⟩, .int .u64 0, .int .u64 0, .int .i64 0, .int .i64 0, .int .u64 0, .int .u64 0, .string ⟨#[]⟩] 26 (0, 0)) := R
  have e := eight_set R' (.string ⟨#[]⟩) (.int .u64 0) (.int .u64 0) (.int .i64 0) (.int .i64 0) (.int .u64 0) (.int .u64 0) (.string ⟨#[]⟩)
  generalize sets8 w1 w.heap.size (.string ⟨#[]⟩) (.int .u64 0) (.int .u64 0) (.int .i64 0) (.int .i64 0) (.int .u64 0) (.int .u64 0) (.string ⟨#[]⟩) = W at e h ⊢
  have e2 := heap_old e o
  exact ⟨e2, h.alloc h.size o⟩
set_option maxRecDepth 100000 in
set_option maxHeartbeats 4000000 in
theorem rparse_bad {w : World} (K : List UInt8) (hK : K.length ≤ 1000) (h : 200 < K.length ∨ pparts K = none) :
    Calls Tryd.prog 11 #[.string (bs K)] w fun e w' => e = .returned (thOut none) ∧ Below w.heap.size w w' := by
  have HP := Lib.hid fun (W : World) => rparts_err (w := W) K hK h
  clear h
  go_enter Tryd.func11, Tryd.ntmps11
  go_wp2_with (go_at_call 27; (with_reducible refine (HP.out _).mono ?_); rintro e w1 ⟨rfl, hb⟩; have R1 := rzero_row hb; have hwl := (Array.getElem?_eq_some_iff.1 R1).1; have B1 := Lib.hid (alloc_below hb); obtain ⟨c0, c1, c2, c3, c4, c5, c6, c7⟩ := eight_cells R1; have f0 := free_in R1 0; have f1 := free_in R1 1; have f2 := free_in R1 2; have f3 := free_in R1 3; have f4 := free_in R1 4; have f5 := free_in R1 5; have f6 := free_in R1 6; have f7 := free_in R1 7; replace R1 := Lib.hid R1; clear hb)
  exact rret_thing (Th.zero ⟨#[]⟩) rfl rfl rfl rfl (eight_set R1.out _ _ _ _ _ _ _ _) ⟨rfl, eight_below B1.out (Nat.le_refl _) _ _ _ _ _ _ _ _⟩
set_option maxRecDepth 100000 in
set_option maxHeartbeats 4000000 in
theorem rparse_few {w : World} (K : List UInt8) (hK : K.length ≤ 200) (l : List KPart) (h : pparts K = some l) (hl : l.length < 2) :
    Calls Tryd.prog 11 #[.string (bs K)] w fun e w' => e = .returned (thOut none) ∧ Below w.heap.size w w' := by
  have HP := Lib.hid fun (W : World) => rparts_at (w := W) K hK l h
  have hl2 : (l.length : Int) < 2 := by omega
  clear h
  go_enter Tryd.func11, Tryd.ntmps11
  go_wp2_with (go_at_call 27; (with_reducible refine (HP.out _).mono ?_); rintro e w1 ⟨⟨A, c, rfl, _⟩, hb⟩; have R1 := rzero_row hb; have hwl := (Array.getElem?_eq_some_iff.1 R1).1; have B1 := Lib.hid (alloc_below hb); obtain ⟨c0, c1, c2, c3, c4, c5, c6, c7⟩ := eight_cells R1; have f0 := free_in R1 0; have f1 := free_in R1 1; have f2 := free_in R1 2; have f3 := free_in R1 3; have f4 := free_in R1 4; have f5 := free_in R1 5; have f6 := free_in R1 6; have f7 := free_in R1 7; replace R1 := Lib.hid R1; clear hb)
  exact rret_thing (Th.zero ⟨#[]⟩) rfl rfl rfl rfl (eight_set R1.out _ _ _ _ _ _ _ _) ⟨rfl, eight_below B1.out (Nat.le_refl _) _ _ _ _ _ _ _ _⟩
set_option maxRecDepth 100000 in
set_option maxHeartbeats 4000000 in
theorem rparse_sort {w : World} (K : List UInt8) (hK : K.length ≤ 200) (s0 : Nat) (n0 : Int) (u0 : Nat) (t0 : ByteArray) (p1 : KPart) (l : List KPart) (h : pparts K = some (⟨s0, n0, u0, t0⟩ :: p1 :: l)) (hs : ((s0 : Int) != 116) = true) (hl : l.length ≤ 1000) :
    Calls Tryd.prog 11 #[.string (bs K)] w fun e w' => e = .returned (thOut none) ∧ Below w.heap.size w w' := by
  have HP := Lib.hid fun (W : World) => rparts_at (w := W) K hK _ h
  have hl2 : ¬ ((l.length : Int) + 1 + 1 < 2) := by omega
  clear h
  go_enter Tryd.func11, Tryd.ntmps11
  go_wp2_with (go_at_call 27; (with_reducible refine (HP.out _).mono ?_); rintro e w1 ⟨⟨A, c, rfl, hq⟩, hb⟩; obtain ⟨g, rfl, hpr⟩ := hq (by simp); obtain ⟨x00, x01, x02, x03⟩ := hpr.2 0 (by simp); have X00 : w1.cell? ⟨g, 0, none⟩ = some (.int .u8 s0) := x00; have X01 : w1.cell? ⟨g, 1, none⟩ = some (.int .i64 n0) := x01; have X02 : w1.cell? ⟨g, 2, none⟩ = some (.int .u64 u0) := x02; have X03 : w1.cell? ⟨g, 3, none⟩ = some (.string t0) := x03; clear x00 x01 x02 x03; have hlt := hpr.1; replace hpr := Lib.hid hpr; have R1 := rzero_row hb; have hwl := (Array.getElem?_eq_some_iff.1 R1).1; have B1 := Lib.hid (alloc_below hb); obtain ⟨c0, c1, c2, c3, c4, c5, c6, c7⟩ := eight_cells R1; have f0 := free_in R1 0; have f1 := free_in R1 1; have f2 := free_in R1 2; have f3 := free_in R1 3; have f4 := free_in R1 4; have f5 := free_in R1 5; have f6 := free_in R1 6; have f7 := free_in R1 7; replace R1 := Lib.hid R1; clear hb)
  exact rret_thing (Th.zero ⟨#[]⟩) rfl rfl rfl rfl (eight_set R1.out _ _ _ _ _ _ _ _) ⟨rfl, eight_below B1.out (Nat.le_refl _) _ _ _ _ _ _ _ _⟩
set_option maxRecDepth 100000 in
set_option maxHeartbeats 4000000 in
theorem rparse_none {w : World} (K : List UInt8) (hK : K.length ≤ 200) (n0 : Int) (u0 : Nat) (t0 : ByteArray) (p1 : KPart) (l : List KPart) (hl : l.length ≤ 1000) (h : pparts K = some (⟨116, n0, u0, t0⟩ :: p1 :: l)) (h1 : ¬ t0 = ⟨#[97]⟩) (h2 : ¬ t0 = ⟨#[111]⟩) (h3 : ¬ t0 = ⟨#[98]⟩) (h4 : ¬ t0 = ⟨#[101]⟩) (h5 : ¬ t0 = ⟨#[110]⟩) :
    Calls Tryd.prog 11 #[.string (bs K)] w fun e w' => e = .returned (thOut none) ∧ Below w.heap.size w w' := by
  have HP := Lib.hid fun (W : World) => rparts_at (w := W) K hK _ h
  have hl2 : ¬ ((l.length : Int) + 1 + 1 < 2) := by omega
  have d1 := text_not h1
  have d2 := text_not h2
  have d3 := text_not h3
  have d4 := text_not h4
  have d5 := text_not h5
  clear h h1 h2 h3 h4 h5
  go_enter Tryd.func11, Tryd.ntmps11
  go_wp2_with (go_at_call 27; (with_reducible refine (HP.out _).mono ?_); rintro e w1 ⟨⟨A, c, rfl, hq⟩, hb⟩; obtain ⟨g, rfl, hpr⟩ := hq (by simp); obtain ⟨x00, x01, x02, x03⟩ := hpr.2 0 (by simp); have X00 : w1.cell? ⟨g, 0, none⟩ = some (.int .u8 116) := x00; have X01 : w1.cell? ⟨g, 1, none⟩ = some (.int .i64 n0) := x01; have X02 : w1.cell? ⟨g, 2, none⟩ = some (.int .u64 u0) := x02; have X03 : w1.cell? ⟨g, 3, none⟩ = some (.string t0) := x03; clear x00 x01 x02 x03; have hlt := hpr.1; replace hpr := Lib.hid hpr; have R1 := rzero_row hb; have hwl := (Array.getElem?_eq_some_iff.1 R1).1; have B1 := Lib.hid (alloc_below hb); obtain ⟨c0, c1, c2, c3, c4, c5, c6, c7⟩ := eight_cells R1; have f0 := free_in R1 0; have f1 := free_in R1 1; have f2 := free_in R1 2; have f3 := free_in R1 3; have f4 := free_in R1 4; have f5 := free_in R1 5; have f6 := free_in R1 6; have f7 := free_in R1 7; replace R1 := Lib.hid R1; clear hb)
  exact rret_thing (Th.zero ⟨#[]⟩) rfl rfl rfl rfl (roff_end R1.out B1.out _).1 ⟨rfl, (roff_end R1.out B1.out _).2⟩
end Go.Proofs.YtelbhegkaihjhaaDoor
