/-
  The law's To, walked: an edit as the document's. Conditions: as each theorem states.
-/
import Derived.Test.YtomokbcamfmfcaaDoorEdS
import Derived.Test.YtomokbcamfmfcaaDoorEdI
namespace Go.Proofs.YtomokbcamfmfcaaDoor.Ed
open Go.RowKit
open Go.Proofs.YtomokbcamfmfcaaDoor
open Vi Ba

theorem infoRAt : (Tryd.prog.info? 85).map (fun i => (i.zero, i.size, i.bytes)) = some (some (.agg #[.int .i64 0, .int .u64 0, .int .u64 0, .int .u64 0, .string ⟨#[]⟩, .string ⟨#[]⟩]), 6, 64) := by kernel_rfl
theorem infoRGone : (Tryd.prog.info? 86).map (fun i => (i.zero, i.size, i.bytes)) = some (some (.agg #[.int .i64 0, .int .u64 0]), 2, 16) := by kernel_rfl
theorem arow_of {w : World} {B : Nat} {t : TypeId} {v : Value} {l : List Fil} (h : w.ownsRow B t 6 v l.length (aCells l)) :
    ∃ A c, v = .slice A l.length c ∧ ARow w A l := by
  have hc := fun g hg => h.cells (g := g) hg
  rcases h.2 with ⟨rfl, h0⟩ | ⟨g, cap, cur, rfl, hb, hg, _⟩
  · exact ⟨none, 0, by rw [h0], fun h1 => by omega⟩
  · refine ⟨some ⟨g, 0, none⟩, cap, rfl, fun _ => ⟨_, rfl, (Array.getElem?_eq_some_iff.1 hg).1, fun i hi => ?_⟩⟩
    have hk : ∀ r u, r < 6 → l[i].cells[r]? = some u → w.cell? ⟨g, i * 6 + r, none⟩ = some u := fun r u hr hu => by
      have := hc g rfl (i * 6 + r) u (by rw [aflat_at l i hi r hr]; exact hu)
      rwa [add_flat] at this
    rw [add_flat]
    exact ⟨hk 0 _ (by decide) rfl, hk 1 _ (by decide) rfl, hk 2 _ (by decide) rfl, hk 3 _ (by decide) rfl, hk 4 _ (by decide) rfl, hk 5 _ (by decide) rfl⟩
theorem grow_of {w : World} {B : Nat} {t : TypeId} {v : Value} {l : List Gon} (h : w.ownsRow B t 2 v l.length (gCells l)) :
    ∃ A c, v = .slice A l.length c ∧ GRow w A l := by
  have hc := fun g hg => h.cells (g := g) hg
  rcases h.2 with ⟨rfl, h0⟩ | ⟨g, cap, cur, rfl, hb, hg, _⟩
  · exact ⟨none, 0, by rw [h0], fun h1 => by omega⟩
  · refine ⟨some ⟨g, 0, none⟩, cap, rfl, fun _ => ⟨_, rfl, (Array.getElem?_eq_some_iff.1 hg).1, fun i hi => ?_⟩⟩
    have hk : ∀ r u, r < 2 → l[i].cells[r]? = some u → w.cell? ⟨g, i * 2 + r, none⟩ = some u := fun r u hr hu => by
      have := hc g rfl (i * 2 + r) u (by rw [gflat_at l i hi r hr]; exact hu)
      rwa [add_flat] at this
    rw [add_flat]
    exact ⟨hk 0 _ (by decide) rfl, hk 1 _ (by decide) rfl⟩
abbrev rObj (x y z : Nat) (va vg : Value) : Obj := .cells #[.int .u64 x, .int .u64 y, .int .u64 z, va, vg] 44 (0, 0)
abbrev rObj0 : Obj := .cells #[.int .u64 0, .int .u64 0, .int .u64 0, .slice none 0 0, .slice none 0 0] 44 (0, 0)
/-- To under way: the argument's box, the answer's, the edit's, its rows -/
structure TE (w : World) (arg : Array Value) (x y z : Nat) (va vg : Value) (la : List Fil) (lg : List Gon) (W : World) : Prop where
  arg : W.heap[w.heap.size]? = some (.cells arg 31 (0, 0))
  box : W.heap[w.heap.size + 1]? = some rObj0
  b : W.heap[w.heap.size + 2]? = some (rObj x y z va vg)
  owa : W.ownsRow (w.heap.size + 3) 85 6 va la.length (aCells la)
  owg : W.ownsRow (w.heap.size + 3) 86 2 vg lg.length (gCells lg)
  apart : ∀ k, va.ownBlock = some k → vg.ownBlock ≠ some k
  below : Below w.heap.size w W
section
variable {w : World} {arg : Array Value} {x y z : Nat} {va vg : Value} {la : List Fil} {lg : List Gon} {W W' : World}
theorem TE.size (h : TE w arg x y z va vg la lg W) : w.heap.size + 2 < W.heap.size := (Array.getElem?_eq_some_iff.1 h.b).1
theorem TE.afar (h : TE w arg x y z va vg la lg W) : ∀ k, va.ownBlock = some k → w.heap.size + 2 < k := fun k hk => by have := (h.owa.lt k hk).1; omega
theorem TE.gfar (h : TE w arg x y z va vg la lg W) : ∀ k, vg.ownBlock = some k → w.heap.size + 2 < k := fun k hk => by have := (h.owg.lt k hk).1; omega
theorem te_below (h : TE w arg x y z va vg la lg W) (hb : Below W.heap.size W W') : TE w arg x y z va vg la lg W' := by
  have hz := h.size
  exact ⟨(hb.block _ (by omega)).trans h.arg, (hb.block _ (by omega)).trans h.box, (hb.block _ hz).trans h.b, h.owa.kept (row := none) (grown_below hb _) (Classical.em _), h.owg.kept (row := none) (grown_below hb _) (Classical.em _), h.apart, h.below.trans (hb.mono (by omega))⟩
theorem te_alloc (h : TE w arg x y z va vg la lg W) (o : Obj) : TE w arg x y z va vg la lg (W.alloc o) := te_below h ((Below.refl _ _).alloc (Nat.le_refl _) _)
theorem te_start (w : World) (arg : Array Value) (x y z : Nat) : TE w arg x y z (.slice none 0 0) (.slice none 0 0) [] [] (((w.alloc (.cells arg 31 (0, 0))).alloc rObj0).alloc (rObj x y z (.slice none 0 0) (.slice none 0 0))) := by
  have a1 : Below (w.alloc (.cells arg 31 (0, 0))).heap.size (w.alloc (.cells arg 31 (0, 0))) ((w.alloc (.cells arg 31 (0, 0))).alloc rObj0) := (Below.refl _ _).alloc (Nat.le_refl _) _
  have a2 : Below ((w.alloc (.cells arg 31 (0, 0))).alloc rObj0).heap.size ((w.alloc (.cells arg 31 (0, 0))).alloc rObj0) (((w.alloc (.cells arg 31 (0, 0))).alloc rObj0).alloc (rObj x y z (.slice none 0 0) (.slice none 0 0))) := (Below.refl _ _).alloc (Nat.le_refl _) _
  refine ⟨?_, ?_, ?_, World.ownsRow_nil _ _ _ _, World.ownsRow_nil _ _ _ _, fun k _ => by simp [Value.ownBlock], ?_⟩
  · rw [a2.block _ (by simp; omega), a1.block _ (by simp)]; exact heap_alloc_new _ _
  · rw [a2.block _ (by simp)]
    have := heap_alloc_new (w.alloc (.cells arg 31 (0, 0))) rObj0
    simpa using this
  · have := heap_alloc_new ((w.alloc (.cells arg 31 (0, 0))).alloc rObj0) (rObj x y z (.slice none 0 0) (.slice none 0 0))
    simpa using this
  · exact ((Below.refl _ _).alloc (Nat.le_refl _) _).trans ((a1.mono (by simp)).trans (a2.mono (by simp; omega)))
theorem te_putA (h : TE w arg x y z va (.slice none 0 0) la [] W) {v2 : Value} {l2 : List Fil} {W2 : World} (hg : W.grownBy W2 va.ownBlock) (ho : W2.ownsRow (w.heap.size + 3) 85 6 v2 l2.length (aCells l2)) : TE w arg x y z v2 (.slice none 0 0) l2 [] (W2.setCell ⟨w.heap.size + 2, 3, none⟩ v2) := by
  have hz := h.size
  have hkeep : ∀ k, k ≤ w.heap.size + 2 → W2.heap[k]? = W.heap[k]? := fun k hk => hg.block k (by omega) (fun e => by have := h.afar _ e.symm; omega)
  have hset : ∀ k, k ≠ w.heap.size + 2 → (W2.setCell ⟨w.heap.size + 2, 3, none⟩ v2).heap[k]? = W2.heap[k]? := fun k hk => Below.heap_setCell W2 ⟨w.heap.size + 2, 3, none⟩ v2 k (fun e => hk (by simpa using e))
  refine ⟨?_, ?_, ?_, ?_, World.ownsRow_nil _ _ _ _, fun k _ => by simp [Value.ownBlock], ?_⟩
  · rw [hset _ (by omega), hkeep _ (by omega)]; exact h.arg
  · rw [hset _ (by omega), hkeep _ (by omega)]; exact h.box
  · exact heap_set ((hkeep _ (Nat.le_refl _)).trans h.b) 3 v2
  · exact ho.kept (grown_set W2 (w.heap.size + 2) 3 v2) (.inr (fun e => by have := (ho.lt _ e).1; omega))
  · have hs := hg.size
    refine h.below.trans ⟨hg.os, hg.tape, hg.output, by simpa [World.setCell] using hs, fun k hk => ?_⟩
    rw [hset _ (by omega), hkeep _ (by omega)]
theorem te_putG (h : TE w arg x y z va vg la lg W) {v2 : Value} {l2 : List Gon} {W2 : World} (hg : W.grownBy W2 vg.ownBlock) (ho : W2.ownsRow (w.heap.size + 3) 86 2 v2 l2.length (gCells l2)) (hw : ∀ k, v2.ownBlock = some k → vg.ownBlock = some k ∨ W.heap.size ≤ k) : TE w arg x y z va v2 la l2 (W2.setCell ⟨w.heap.size + 2, 4, none⟩ v2) := by
  have hz := h.size
  have hkeep : ∀ k, k ≤ w.heap.size + 2 → W2.heap[k]? = W.heap[k]? := fun k hk => hg.block k (by omega) (fun e => by have := h.gfar _ e.symm; omega)
  have hset : ∀ k, k ≠ w.heap.size + 2 → (W2.setCell ⟨w.heap.size + 2, 4, none⟩ v2).heap[k]? = W2.heap[k]? := fun k hk => Below.heap_setCell W2 ⟨w.heap.size + 2, 4, none⟩ v2 k (fun e => hk (by simpa using e))
  have hA : W2.ownsRow (w.heap.size + 3) 85 6 va la.length (aCells la) := by
    cases hv : vg.ownBlock with
    | none => rw [hv] at hg; exact h.owa.kept hg (Classical.em _)
    | some k => rw [hv] at hg; exact h.owa.kept hg (.inr fun e => h.apart k e hv)
  refine ⟨?_, ?_, ?_, ?_, ?_, fun k hk e => ?_, ?_⟩
  · rw [hset _ (by omega), hkeep _ (by omega)]; exact h.arg
  · rw [hset _ (by omega), hkeep _ (by omega)]; exact h.box
  · exact heap_set ((hkeep _ (Nat.le_refl _)).trans h.b) 4 v2
  · exact hA.kept (grown_set W2 (w.heap.size + 2) 4 v2) (.inr (fun e => by have := (hA.lt _ e).1; omega))
  · exact ho.kept (grown_set W2 (w.heap.size + 2) 4 v2) (.inr (fun e => by have := (ho.lt _ e).1; omega))
  · rcases hw k e with e2 | e2
    · exact h.apart k hk e2
    · have := (h.owa.lt k hk).2; omega
  · have hs := hg.size
    refine h.below.trans ⟨hg.os, hg.tape, hg.output, by simpa [World.setCell] using hs, fun k hk => ?_⟩
    rw [hset _ (by omega), hkeep _ (by omega)]
end
theorem news_two_six (w1 : World) (o : Obj) (x0 x1 x2 x3 x4 x5 : Value) (t : TypeId) : ∀ j y, [x0, x1, x2, x3, x4, x5][j]? = some y → ((w1.alloc o).alloc (.cells #[x0, x1, x2, x3, x4, x5] t)).cell? ((⟨w1.heap.size + 1, 0, none⟩ : Addr).add j) = some y :=
  World.news_of_block (by have := heap_alloc_new (w1.alloc o) (.cells #[x0, x1, x2, x3, x4, x5] t); simpa using this)
theorem news_two_two (w1 : World) (o : Obj) (x0 x1 : Value) (t : TypeId) : ∀ j y, [x0, x1][j]? = some y → ((w1.alloc o).alloc (.cells #[x0, x1] t)).cell? ((⟨w1.heap.size + 1, 0, none⟩ : Addr).add j) = some y :=
  World.news_of_block (by have := heap_alloc_new (w1.alloc o) (.cells #[x0, x1] t); simpa using this)
theorem ret_redit {f : Func} (hf : f.results = #[.cell 2 44]) {R : Ending → World → Prop} {a : Act} {wf : World} {x0 x1 x2 x3 x4 : Value} {g : Nat}
    (h2 : a.tmps.getD 2 undef = .pointer (some ⟨g, 0, none⟩)) (hd : a.defers = [])
    (hrow : wf.heap[g]? = some (.cells #[x0, x1, x2, x3, x4] 44 (0, 0)))
    (hR : R (.returned (.agg #[x0, x1, x2, x3, x4])) wf) : bodyPost Tryd.prog f R .ret a wf := by
  obtain ⟨⟨k0, k1, k2, k3, k4⟩, _⟩ := cells5 hrow
  have g2 : a.tmps[2]?.getD undef = .pointer (some ⟨g, 0, none⟩) := by simpa using h2
  exact bodyPost_ret (v := .agg #[x0, x1, x2, x3, x4]) (by simp [results, hf, g2, go_sem, k0, k1, k2, k3, k4]) hd hR
def ToPost (w : World) (x : Edt) (e : Ending) (w' : World) : Prop := ∃ A c G d, e = .returned (x.val A c G d) ∧ Lies w' x A G ∧ Below w.heap.size w w'
def ToA (w : World) (arg : Array Value) (x y z : Nat) (come : List Fil) (iv : Value) (W : World) : Prop :=
  ∃ (j : Nat) (va : Value) (la : List Fil), iv = .int .i64 j ∧ j ≤ come.length ∧ TE w arg x y z va (.slice none 0 0) la [] W ∧ la = come.take j
def ToG (w : World) (arg : Array Value) (x y z : Nat) (va : Value) (come : List Fil) (go : List Gon) (iv : Value) (W : World) : Prop :=
  ∃ (j : Nat) (vg : Value) (lg : List Gon), iv = .int .i64 j ∧ j ≤ go.length ∧ TE w arg x y z va vg come lg W ∧ lg = go.take j
set_option maxHeartbeats 4000000 in
set_option maxRecDepth 100000 in
theorem to_any {w : World} {e : Edt} {A G : Option Addr} (c d : Nat) (H : Lies w e A G) (h1 : e.come.length ≤ 100000) (h2 : e.go.length ≤ 100000) :
    Calls Tryd.prog 15 #[e.val A c G d] w (ToPost w e) := by
  obtain ⟨i0, hi, hz0, hz1, hz2⟩ := info_parts infoRAt
  have HI := Lib.hid (And.intro hi (And.intro hz0 (And.intro hz1 hz2)))
  clear hi hz0 hz1 hz2
  obtain ⟨j0, hi, hz0, hz1, hz2⟩ := info_parts infoRGone
  have HJ := Lib.hid (And.intro hi (And.intro hz0 (And.intro hz1 hz2)))
  clear hi hz0 hz1 hz2
  obtain ⟨log, next, seq, come, go⟩ := e
  obtain ⟨RA, RG, ok, la, lg⟩ := H
  simp only at *
  replace RA := Lib.hid RA
  replace RG := Lib.hid RG
  replace ok := Lib.hid ok
  unfold Edt.val
  simp only
  go_enter Tryd.func15, Tryd.ntmps15
  go_wp2
  go_loopw [18] (ToA w #[.int .u64 log, .int .u64 next, .int .u64 seq, .slice A come.length c, .slice G go.length d] log next seq come) (fun i _ => come.length - (intOf i).toNat)
  case atStart => exact ⟨0, _, [], rfl, by omega, te_start _ _ _ _ _, by simp⟩
  case round =>
    obtain ⟨j, va, la', rfl, hj, P, hla⟩ := hrel
    replace P := Lib.hid P
    have hlb : la'.length ≤ 100000 := by rw [hla, List.length_take]; omega
    replace hla := Lib.hid hla
    have hsz := P.out.size
    obtain ⟨⟨b0, b1, b2, b3, b4⟩, b5⟩ := cells5 P.out.b
    obtain ⟨⟨a0, a1, a2, a3, a4⟩, a5⟩ := cells5 P.out.arg
    by_cases hlt : j < come.length
    · obtain ⟨a, rfl, hab, hca⟩ := RA.out (by omega)
      have hbl : (a.add (j * 6)).block < w.heap.size := by rw [block_add]; exact hab
      have hx := (hca j hlt).on hbl P.out.below
      clear hca
      have HT : Hid (la' ++ [come[j]] = come.take (j + 1)) := by rw [Hid, hla.out, List.take_succ_eq_append_getElem hlt]
      generalize come[j] = y at hx HT
      obtain ⟨v, n, s, q, l, m⟩ := y
      obtain ⟨x0, x1, x2, x3, x4, x5⟩ := hx
      simp only at x0 x1 x2 x3 x4 x5
      go_wp2_with (first
        | (at_builtin
           refine wpList_append_lies _ rfl _ _ 41 rfl (w.heap.size + 3) 85 i0 _ 6 64 Tryd.underlying41 HI.out.1 HI.out.2.1 HI.out.2.2.1 HI.out.2.2.2 rfl (by decide) va la'.length (aCells la') rfl ((P.out.owa.alloc _).alloc _) ⟨wr.heap.size + 1, 0, none⟩ 1 1 [.int .i64 v, .int .u64 n, .int .u64 s, .int .u64 q, .string l, .string m] rfl rfl (news_two_six wr _ _ _ _ _ _ _ _) (by simp [Value.oneCell']) (by omega) (by unfold maxLen; omega) (by omega) (by simp; omega) (wr.heap.size + 2) (by simp) ?_
           intro g cap w8 hown8 hgrow8 hwhere hlt8
           have HE := Lib.hid (And.intro hown8 hgrow8)
           have b8 : w8.heap[w.heap.size + 2]? = some (rObj log next seq va (.slice none 0 0)) := (hgrow8.block _ (by simp; omega) (fun e => by have := P.out.afar _ e.symm; omega)).trans (te_alloc (te_alloc P.out _) _).b
           have D8 := cell_in b8 3 _ rfl
           have F8 := free_in b8 3
           clear hown8 hgrow8 hwhere hlt8 b8))
      go_roundw
      case rel => exact ⟨j + 1, _, la' ++ [⟨v, n, s, q, l, m⟩], by go_num, by omega, te_putA (te_alloc (te_alloc P.out _) _) HE.out.2 (by rw [aCells_snoc, List.length_append]; exact HE.out.1), HT.out⟩
      case measure => simp [intOf]; omega
    · have hj2 : j = come.length := by omega
      have hlc : la' = come := by rw [hla.out, hj2, List.take_length]
      clear hla
      subst hlc
      go_wp2
      go_loopw [36] (ToG w #[.int .u64 log, .int .u64 next, .int .u64 seq, .slice A la'.length c, .slice G go.length d] log next seq va la' go) (fun i _ => go.length - (intOf i).toNat)
      case atStart => exact ⟨0, _, [], rfl, by omega, P.out, by simp⟩
      case round =>
        clear P b0 b1 b2 b3 b4 b5 a0 a1 a2 a3 a4 a5 hsz hlt hj hj2
        obtain ⟨j, vg, lg', rfl, hj, P, hla⟩ := hrel
        replace P := Lib.hid P
        have hlb2 : lg'.length ≤ 100000 := by rw [hla, List.length_take]; omega
        replace hla := Lib.hid hla
        have hsz := P.out.size
        obtain ⟨⟨b0, b1, b2, b3, b4⟩, b5⟩ := cells5 P.out.b
        obtain ⟨⟨a0, a1, a2, a3, a4⟩, a5⟩ := cells5 P.out.arg
        by_cases hlt : j < go.length
        · obtain ⟨a, rfl, hab, hca⟩ := RG.out (by omega)
          have hbl : (a.add (j * 2)).block < w.heap.size := by rw [block_add]; exact hab
          have hx := (hca j hlt).on hbl P.out.below
          clear hca
          have HT : Hid (lg' ++ [go[j]] = go.take (j + 1)) := by rw [Hid, hla.out, List.take_succ_eq_append_getElem hlt]
          generalize go[j] = y at hx HT
          obtain ⟨v, n⟩ := y
          obtain ⟨x0, x1⟩ := hx
          simp only at x0 x1
          go_wp2_with (first
            | (at_builtin
               refine wpList_append_lies _ rfl _ _ 42 rfl (w.heap.size + 3) 86 j0 _ 2 16 Tryd.underlying42 HJ.out.1 HJ.out.2.1 HJ.out.2.2.1 HJ.out.2.2.2 rfl (by decide) vg lg'.length (gCells lg') rfl ((P.out.owg.alloc _).alloc _) ⟨wr.heap.size + 1, 0, none⟩ 1 1 [.int .i64 v, .int .u64 n] rfl rfl (news_two_two wr _ _ _ _) (by simp [Value.oneCell']) (by omega) (by unfold maxLen; omega) (by omega) (by simp; omega) (wr.heap.size + 2) (by simp) ?_
               intro g cap w8 hown8 hgrow8 hwhere hlt8
               have HE := Lib.hid (And.intro hown8 (And.intro hgrow8 hwhere))
               have b8 : w8.heap[w.heap.size + 2]? = some (rObj log next seq va vg) := (hgrow8.block _ (by simp; omega) (fun e => by have := P.out.gfar _ e.symm; omega)).trans (te_alloc (te_alloc P.out _) _).b
               have D8 := cell_in b8 4 _ rfl
               have F8 := free_in b8 4
               clear hown8 hgrow8 hwhere hlt8 b8))
          go_roundw
          case rel => exact ⟨j + 1, _, lg' ++ [⟨v, n⟩], by go_num, by omega, te_putG (te_alloc (te_alloc P.out _) _) HE.out.2.1 (by rw [gCells_snoc, List.length_append]; exact HE.out.1) (fun k hk => by
            rcases HE.out.2.2 with e | e
            · left; rw [e]; exact hk
            · right; simp [Value.ownBlock] at hk; simp; omega), HT.out⟩
          case measure => simp [intOf]; omega
        · have hj2 : j = go.length := by omega
          have hlc : lg' = go := by rw [hla.out, hj2, List.take_length]
          clear hla
          subst hlc
          obtain ⟨A3, c3, hva, _⟩ := arow_of P.out.owa
          obtain ⟨G3, d3, hvg, _⟩ := grow_of P.out.owg
          subst hva hvg
          obtain ⟨⟨k0, k1, k2, k3, k4⟩, k5⟩ := cells5 P.out.box
          go_wp2
          refine ret_redit rfl rfl rfl (row_sets5 P.out.box _ _ _ _ _) ⟨A3, c3, G3, d3, rfl, ?_, ?_⟩
          · have hg := grown_sets wr (w.heap.size + 1) (.int .u64 log) (.int .u64 next) (.int .u64 seq) (.slice A3 la'.length c3) (.slice G3 lg'.length d3)
            have r1 := P.out.owa.kept hg (.inr fun e => by have := P.out.afar _ e; omega)
            have r2 := P.out.owg.kept hg (.inr fun e => by have := P.out.gfar _ e; omega)
            obtain ⟨A', c', e1, r1⟩ := arow_of r1
            obtain ⟨G', d', e2, r2⟩ := grow_of r2
            injection e1 with e1 _ _
            injection e2 with e2 _ _
            subst e1 e2
            exact ⟨r1, r2, ok.out, la, lg⟩
          · have hsz := P.out.below
            exact ((((hsz.setCell (by simp) _).setCell (by simp) _).setCell (by simp) _).setCell (by simp) _).setCell (by simp) _
end Go.Proofs.YtomokbcamfmfcaaDoor.Ed
