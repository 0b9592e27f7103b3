/-
  The Go text of edits, walked: Parse. Conditions: as each theorem states.
-/
import Derived.Test.YtkocekogkpemiaaDoorEdH
namespace Go.Proofs.YtkocekogkpemiaaDoor.Ed
open Go.RowKit
open Go.Proofs.YtkocekogkpemiaaDoor
open Vi Ba

abbrev eBox : Obj := .cells #[.int .u64 0, .int .u64 0, .int .u64 0, .slice none 0 0, .slice none 0 0] 49 (0, 0)
/-- Parse under way, ahead of the edit's box -/
structure PQ (w : World) (s : ByteArray) (p : Pt) (W : World) : Prop where
  rd : Rd W (w.heap.size + 1) s p
  box : W.heap[w.heap.size]? = some eBox
  below : Below w.heap.size w W
theorem pq_over {w w1 : World} {s : ByteArray} (h1 : RdAt 115 w1 (w.alloc eBox).heap.size s 0 0) (b1 : Below (w.alloc eBox).heap.size (w.alloc eBox) w1) : PQ w s p0 w1 :=
  ⟨by simpa [p0] using h1, (b1.block _ (by simp)).trans (heap_alloc_new _ _), ((Below.refl _ _).alloc (Nat.le_refl _) _).trans (b1.mono (by simp))⟩
theorem pq_post {w W W' : World} {s : ByteArray} {p q : Pt} (h : PQ w s p W) (hr : Rd W' (w.heap.size + 1) s q) (hg : W.grownBy W' (some (w.heap.size + 1))) : PQ w s q W' :=
  have hz := (Array.getElem?_eq_some_iff.1 h.box).1
  ⟨hr, (hg.block _ hz (fun e => by injection e with e; omega)).trans h.box, h.below.trans ⟨hg.os, hg.tape, hg.output, hg.size, fun k hk => hg.block k (by omega) (fun e => by injection e with e; omega)⟩⟩
theorem pe_start {w W : World} {s : ByteArray} {p : Pt} (h : PQ w s p W) (x y z : Nat) : PE w s W.heap.size x y z (.slice none 0 0) (.slice none 0 0) [] [] p (W.alloc (.cells #[.int .u64 x, .int .u64 y, .int .u64 z, .slice none 0 0, .slice none 0 0] 49 (0, 0))) := by
  have h1 := rd_lt h.rd
  have hbl : Below W.heap.size W (W.alloc (.cells #[.int .u64 x, .int .u64 y, .int .u64 z, .slice none 0 0, .slice none 0 0] 49 (0, 0))) := (Below.refl _ _).alloc (Nat.le_refl _) _
  refine ⟨?_, (hbl.block _ (by omega)).trans h.box, heap_alloc_new _ _, World.ownsRow_nil _ _ _ _, World.ownsRow_nil _ _ _ _, fun k _ => by simp [Value.ownBlock], h.below.trans (hbl.mono h.below.size), h1⟩
  unfold Rd RdAt; rw [hbl.block _ h1]; exact h.rd
theorem ret_edit {f : Func} (hf : f.results = #[.cell 2 49, .tmp 3]) {R : Ending → World → Prop} {a : Act} {wf : World} {x0 x1 x2 x3 x4 : Value} {n : Int} {g : Nat}
    (h2 : a.tmps.getD 2 undef = .pointer (some ⟨g, 0, none⟩)) (h3 : a.tmps.getD 3 undef = .int .i64 n) (hd : a.defers = [])
    (hrow : wf.heap[g]? = some (.cells #[x0, x1, x2, x3, x4] 49 (0, 0)))
    (hR : R (.returned (.tuple #[.agg #[x0, x1, x2, x3, x4], .int .i64 n])) wf) : bodyPost Tryd.prog f R .ret a wf := by
  obtain ⟨⟨k0, k1, k2, k3, k4⟩, _⟩ := cells5 hrow
  have g2 : a.tmps[2]?.getD undef = .pointer (some ⟨g, 0, none⟩) := by simpa using h2
  have g3 : a.tmps[3]?.getD undef = .int .i64 n := by simpa using h3
  exact bodyPost_ret (v := .tuple #[.agg #[x0, x1, x2, x3, x4], .int .i64 n]) (by simp [results, hf, g2, g3, go_sem, k0, k1, k2, k3, k4]) hd hR
def EpPost (w : World) (s : ByteArray) (e : Ending) (w' : World) : Prop :=
  ∃ A c G d, e = .returned (.tuple #[(parse s.data.toList).1.val A c G d, .int .i64 (parse s.data.toList).2]) ∧ Lies w' (parse s.data.toList).1 A G ∧ Below w.heap.size w w'
theorem lies_none (w : World) : Lies w Edt.none none none := ⟨arow_nil w none, grow_nil w none, none_ok, by decide, by decide⟩
abbrev sets5 (W : World) (g : Nat) (v0 v1 v2 v3 v4 : Value) : World := ((((W.setCell ⟨g, 0, none⟩ v0).setCell ⟨g, 1, none⟩ v1).setCell ⟨g, 2, none⟩ v2).setCell ⟨g, 3, none⟩ v3).setCell ⟨g, 4, none⟩ v4
theorem grown_sets (W : World) (g : Nat) (v0 v1 v2 v3 v4 : Value) : W.grownBy (sets5 W g v0 v1 v2 v3 v4) (some g) := (grown_set W g 0 v0).trans ((grown_set _ g 1 v1).trans ((grown_set _ g 2 v2).trans ((grown_set _ g 3 v3).trans (grown_set _ g 4 v4))))
theorem below_sets {w W : World} {g : Nat} (h : Below g w W) (v0 v1 v2 v3 v4 : Value) : Below g w (sets5 W g v0 v1 v2 v3 v4) :=
  ((((h.setCell (Nat.le_refl _) _).setCell (Nat.le_refl _) _).setCell (Nat.le_refl _) _).setCell (Nat.le_refl _) _).setCell (Nat.le_refl _) _
theorem pe_lies {w : World} {s : ByteArray} {kb x y z : Nat} {va vg : Value} {la : List Fil} {lg : List Gon} {p : Pt} {W : World} (h : PE w s kb x y z va vg la lg p W) (v0 v1 v2 v3 v4 : Value) :
    (sets5 W w.heap.size v0 v1 v2 v3 v4).ownsRow (kb + 1) 45 6 va la.length (aCells la) ∧ (sets5 W w.heap.size v0 v1 v2 v3 v4).ownsRow (kb + 1) 72 2 vg lg.length (gCells lg) := by
  have hg := grown_sets W w.heap.size v0 v1 v2 v3 v4
  have hf := h.far
  exact ⟨h.owa.kept hg (.inr fun e => by have := h.afar _ e; omega), h.owg.kept hg (.inr fun e => by have := h.gfar _ e; omega)⟩
theorem news_six (w1 : World) (x0 x1 x2 x3 x4 x5 : Value) (t : TypeId) : ∀ j y, [x0, x1, x2, x3, x4, x5][j]? = some y → (w1.alloc (.cells #[x0, x1, x2, x3, x4, x5] t)).cell? ((⟨w1.heap.size, 0, none⟩ : Addr).add j) = some y :=
  World.news_of_block (heap_alloc_new w1 _)
theorem news_two (w1 : World) (x0 x1 : Value) (t : TypeId) : ∀ j y, [x0, x1][j]? = some y → (w1.alloc (.cells #[x0, x1] t)).cell? ((⟨w1.heap.size, 0, none⟩ : Addr).add j) = some y :=
  World.news_of_block (heap_alloc_new w1 _)
def PaR (w : World) (s : ByteArray) (kb n : Nat) (iv : Value) (W : World) : Prop :=
  ∃ (i : Nat) (va : Value) (la : List Fil) (p : Pt), iv = .int .u64 i ∧ i ≤ n ∧ PE w s kb (nx s.data.toList p0).1 (nx s.data.toList (p1 s.data.toList)).1 (nx s.data.toList (p2 s.data.toList)).1 va (.slice none 0 0) la [] p W ∧ p.1 ≤ s.size ∧ rdAs s.data.toList (n - i) p la = cA s.data.toList ∧ la.length = i
def PgR (w : World) (s : ByteArray) (kb n : Nat) (iv : Value) (W : World) : Prop :=
  ∃ (i : Nat) (va vg : Value) (lg : List Gon) (p : Pt), iv = .int .u64 i ∧ i ≤ n ∧ PE w s kb (nx s.data.toList p0).1 (nx s.data.toList (p1 s.data.toList)).1 (nx s.data.toList (p2 s.data.toList)).1 va vg (cA s.data.toList).1 lg p W ∧ p.1 ≤ s.size ∧ rdGs s.data.toList (n - i) p lg = gA s.data.toList ∧ lg.length = i
set_option maxHeartbeats 4000000 in
set_option maxRecDepth 100000 in
theorem eparse_any (s : ByteArray) (hs : s.size ≤ 1000000) (w : World) :
    Calls Tryd.prog 37 #[.string s] w (EpPost w s) := by
  obtain ⟨i0, hi, hz0, hz1, hz2⟩ := info_parts infoAt
  have HI := Lib.hid (And.intro hi (And.intro hz0 (And.intro hz1 hz2)))
  clear hi hz0 hz1 hz2
  obtain ⟨j0, hi, hz0, hz1, hz2⟩ := info_parts infoGone
  have HJ := Lib.hid (And.intro hi (And.intro hz0 (And.intro hz1 hz2)))
  clear hi hz0 hz1 hz2
  have O1 := Lib.hid (over_any s)
  have a1 : (p1 s.data.toList).1 ≤ s.size := nx_at (show (p0).1 ≤ s.data.toList.length by simp [p0])
  have a2 : (p2 s.data.toList).1 ≤ s.size := nx_at a1
  have a3 : (p3 s.data.toList).1 ≤ s.size := nx_at a2
  have ac : (cN s.data.toList).2.1 ≤ s.size := rdN_at a3
  have N1 : Hid (∀ (W : World), Rd W (w.heap.size + 1) s p0 → Calls Tryd.prog 49 #[.pointer (some ⟨w.heap.size + 1, 0, none⟩)] W (RdP W (w.heap.size + 1) s (.int .u64 (nx s.data.toList p0).1) (p1 s.data.toList))) := fun W h => num_rd h hs (by simp [p0])
  have N2 : Hid (∀ (W : World), Rd W (w.heap.size + 1) s (p1 s.data.toList) → Calls Tryd.prog 49 #[.pointer (some ⟨w.heap.size + 1, 0, none⟩)] W (RdP W (w.heap.size + 1) s (.int .u64 (nx s.data.toList (p1 s.data.toList)).1) (p2 s.data.toList))) := fun W h => num_rd h hs a1
  have N3 : Hid (∀ (W : World), Rd W (w.heap.size + 1) s (p2 s.data.toList) → Calls Tryd.prog 49 #[.pointer (some ⟨w.heap.size + 1, 0, none⟩)] W (RdP W (w.heap.size + 1) s (.int .u64 (nx s.data.toList (p2 s.data.toList)).1) (p3 s.data.toList))) := fun W h => num_rd h hs a2
  have F4 : Hid (∀ (W : World), Rd W (w.heap.size + 1) s (p3 s.data.toList) → Calls Tryd.prog 50 #[.pointer (some ⟨w.heap.size + 1, 0, none⟩)] W (RdP W (w.heap.size + 1) s (.int .u64 (cN s.data.toList).1) (cN s.data.toList).2)) := fun W h => files_rd h hs a3
  have cle : (cN s.data.toList).1 ≤ 200 := rdN_le _ _
  have HR : Hid (rdAs s.data.toList ((cN s.data.toList).1 - 0) (cN s.data.toList).2 [] = cA s.data.toList) := rfl
  clear a1 a2 a3
  generalize hcn : cN s.data.toList = cn at F4 cle HR ac
  obtain ⟨n, pc⟩ := cn
  simp only at F4 cle HR ac
  clear hcn
  go_enter Tryd.func37, Tryd.ntmps37
  go_wp2_with (first
    | (go_at_call 48; (with_reducible refine (O1.out _).mono ?_); rintro e w1 ⟨rfl, h1, b1⟩; have Q1 := Lib.hid (pq_over h1 b1); clear h1 b1)
    | (go_at_call 49; have Z := Q3; (with_reducible refine (N3.out _ Q3.out.rd).mono ?_); rintro e w4 ⟨rfl, h4, g4⟩; have Q4 := Lib.hid (pe_start (pq_post Q3.out h4 g4) (nx s.data.toList p0).1 (nx s.data.toList (p1 s.data.toList)).1 (nx s.data.toList (p2 s.data.toList)).1); clear h4 g4)
    | (go_at_call 49; have Z := Q2; (with_reducible refine (N2.out _ Q2.out.rd).mono ?_); rintro e w3 ⟨rfl, h3, g3⟩; have Q3 := Lib.hid (pq_post Q2.out h3 g3); clear h3 g3)
    | (go_at_call 49; (with_reducible refine (N1.out _ (by simpa using Q1.out.rd)).mono ?_); rintro e w2 ⟨rfl, h2, g2⟩; have Q2 := Lib.hid (pq_post Q1.out h2 g2); clear h2 g2)
    | (go_at_call 50; (with_reducible refine (F4.out _ Q4.out.rd).mono ?_); rintro e w5 ⟨rfl, h5, g5⟩; have P5 := Lib.hid (pe_grown Q4.out h5 g5); clear h5 g5))
  clear N1 N2 N3 F4 O1 Q1 Q2 Q3 Q4
  go_loopw [19] (PaR w s w4.heap.size n) (fun i _ => n - (intOf i).toNat)
  case atStart => exact ⟨0, _, [], pc, rfl, by omega, P5.out, ac, HR.out, rfl⟩
  case round =>
    obtain ⟨i, va, la, p, rfl, hin, P, hat, hrd, hll⟩ := hrel
    replace P := Lib.hid P
    have hlb : la.length ≤ 200 := by omega
    replace hll := Lib.hid hll
    clear P5 HR
    by_cases hlt : i < n
    · obtain ⟨m, hm⟩ : ∃ m, n - i = m + 1 := ⟨n - i - 1, by omega⟩
      rw [hm, rdAs] at hrd
      have LV := Lib.hid fun (W : World) (h : Rd W (w.heap.size + 1) s p) => level_rd h hs hat
      have hq : (rdV s.data.toList p).2.1 ≤ s.size := rdV_at hat
      have FL := Lib.hid fun (W : World) (h : Rd W (w.heap.size + 1) s (rdV s.data.toList p).2) => file_rd h hs hq
      have hq2 : (rdF s.data.toList (rdV s.data.toList p).2).2.1 ≤ s.size := tx_at (tx_at (nx_at (nx_at (nx_at hq))))
      have hA : rdA s.data.toList p = (mkF (rdV s.data.toList p).1 (rdF s.data.toList (rdV s.data.toList p).2).1, (rdF s.data.toList (rdV s.data.toList p).2).2) := rfl
      rw [hA] at hrd
      clear hA
      generalize rdV s.data.toList p = r1 at LV FL hrd hq hq2
      obtain ⟨lv, q⟩ := r1
      simp only at LV FL hrd hq hq2
      generalize rdF s.data.toList q = r2 at FL hrd hq2
      obtain ⟨⟨f1, f2, f3, f4, f5⟩, q2⟩ := r2
      simp only [Fil5.val, mkF] at FL hrd hq2
      replace hrd := Lib.hid hrd
      obtain ⟨⟨d0, d1, d2, d3, d4⟩, d5⟩ := pe_cells P.out
      have hfar := P.out.far
      have hsz := P.out.size
      go_wp2
      go_region_law (first
        | (refine step_append_lies _ rfl _ _ 46 rfl (w4.heap.size + 1) 45 i0 _ 6 64 Tryd.underlying46 HI.out.1 HI.out.2.1 HI.out.2.2.1 HI.out.2.2.2 rfl (by decide) va la.length (aCells la) rfl (P7.out.owa.alloc _) ⟨w7.heap.size, 0, none⟩ 1 1 [.int .i64 lv, .int .u64 f1, .int .u64 f2, .int .u64 f3, .string f4, .string f5] rfl rfl (news_six w7 _ _ _ _ _ _ _) (by simp [Value.oneCell']) (by omega) (by unfold maxLen; omega) (by omega) (by simp; omega) (w7.heap.size + 1) (by simp) ?_
           intro g cap w8 hown8 hgrow8 hwhere hlt8
           have HE := Lib.hid (And.intro hown8 hgrow8)
           have b8 : w8.heap[w4.heap.size]? = some (.cells #[.int .u64 (nx s.data.toList p0).1, .int .u64 (nx s.data.toList (p1 s.data.toList)).1, .int .u64 (nx s.data.toList (p2 s.data.toList)).1, va, .slice none 0 0] 49 (0, 0)) := (hgrow8.block _ (by simp; omega) (fun e => by have := P7.out.afar _ e.symm; omega)).trans (pe_alloc P7.out _).b
           have D8 := cell_in b8 3 _ rfl
           have F8 := free_in b8 3
           clear hown8 hgrow8 hwhere hlt8 b8)
        | (go_simp; go_at_call 52; (with_reducible first | refine (FL.out _ P6.out.rd).mono ?_ | refine (FL.out _ (pe_drew P6.out).rd).mono ?_); rintro e w7 ⟨rfl, h7, g7⟩; have P7 : Hid (PE w s w4.heap.size (nx s.data.toList p0).1 (nx s.data.toList (p1 s.data.toList)).1 (nx s.data.toList (p2 s.data.toList)).1 va (.slice none 0 0) la [] q2 w7) := (by first | exact pe_grown P6.out h7 g7 | exact pe_grown (pe_drew P6.out) h7 g7); obtain ⟨⟨u0, u1, u2, u3, u4⟩, u5⟩ := pe_cells P7.out; have hsz7 := P7.out.size; clear h7 g7)
        | (go_simp; go_at_call 51; (with_reducible first | refine (LV.out _ P.out.rd).mono ?_ | refine (LV.out _ (pe_drew P.out).rd).mono ?_); rintro e w6 ⟨rfl, h6, g6⟩; have P6 : Hid (PE w s w4.heap.size (nx s.data.toList p0).1 (nx s.data.toList (p1 s.data.toList)).1 (nx s.data.toList (p2 s.data.toList)).1 va (.slice none 0 0) la [] q w6) := (by first | exact pe_grown P.out h6 g6 | exact pe_grown (pe_drew P.out) h6 g6); obtain ⟨⟨k0, k1, k2, k3, k4⟩, k5⟩ := pe_cells P6.out; have hsz6 := P6.out.size; clear h6 g6))
      all_goals
        go_wp2
        go_roundw
        case rel => exact ⟨i + 1, _, la ++ [⟨lv, f1, f2, f3, f4, f5⟩], q2, by go_num, by omega, pe_putA (pe_alloc P7.out _) HE.out.2 (by rw [aCells_snoc, List.length_append]; exact HE.out.1), hq2, by rw [show n - (i + 1) = m by omega]; exact hrd.out, by have := hll.out; rw [List.length_append, List.length_singleton]; omega⟩
        case measure => simp [intOf]; omega
    · have hi2 : i = n := by omega
      have hca : cA s.data.toList = (la, p) := by rw [← hrd, show n - i = 0 by omega]; rfl
      have ag : (gN s.data.toList).2.1 ≤ s.size := by unfold gN; rw [hca]; exact rdN_at hat
      have gle : (gN s.data.toList).1 ≤ 200 := rdN_le _ _
      have F4 : Hid (∀ (W : World), Rd W (w.heap.size + 1) s p → Calls Tryd.prog 50 #[.pointer (some ⟨w.heap.size + 1, 0, none⟩)] W (RdP W (w.heap.size + 1) s (.int .u64 (gN s.data.toList).1) (gN s.data.toList).2)) := fun W h => by
        have := files_rd h hs hat
        unfold gN; rw [hca]; exact this
      have HR : Hid (rdGs s.data.toList ((gN s.data.toList).1 - 0) (gN s.data.toList).2 [] = gA s.data.toList) := rfl
      have hla : la = (cA s.data.toList).1 := by rw [hca]
      clear hca hrd hi2 hat
      generalize gN s.data.toList = gn at F4 gle HR ag
      obtain ⟨n2, pg⟩ := gn
      simp only at F4 gle HR ag
      subst hla
      go_wp2_with (go_at_call 50; (with_reducible refine (F4.out _ P.out.rd).mono ?_); rintro e w5 ⟨rfl, h5, g5⟩; have P5 := Lib.hid (pe_grown P.out h5 g5); clear h5 g5)
      go_loopw [34] (PgR w s w4.heap.size n2) (fun i _ => n2 - (intOf i).toNat)
      case atStart => exact ⟨0, va, _, [], pg, rfl, by omega, P5.out, ag, HR.out, rfl⟩
      case round =>
        clear P5 HR F4 P hlt hin hll
        obtain ⟨i, va, vg, lg, p, rfl, hin, P, hat, hrd, hll⟩ := hrel
        replace P := Lib.hid P
        have hlb2 : lg.length ≤ 200 := by omega
        replace hll := Lib.hid hll
        by_cases hlt : i < n2
        · obtain ⟨m, hm⟩ : ∃ m, n2 - i = m + 1 := ⟨n2 - i - 1, by omega⟩
          rw [hm, rdGs] at hrd
          have LV := Lib.hid fun (W : World) (h : Rd W (w.heap.size + 1) s p) => level_rd h hs hat
          have hq : (rdV s.data.toList p).2.1 ≤ s.size := rdV_at hat
          have FL := Lib.hid fun (W : World) (h : Rd W (w.heap.size + 1) s (rdV s.data.toList p).2) => num_rd h hs hq
          have hq2 : (nx s.data.toList (rdV s.data.toList p).2).2.1 ≤ s.size := nx_at hq
          have hA : rdG s.data.toList p = (⟨(rdV s.data.toList p).1, (nx s.data.toList (rdV s.data.toList p).2).1⟩, (nx s.data.toList (rdV s.data.toList p).2).2) := rfl
          rw [hA] at hrd
          clear hA
          generalize rdV s.data.toList p = r1 at LV FL hrd hq hq2
          obtain ⟨lv, q⟩ := r1
          simp only at LV FL hrd hq hq2
          generalize nx s.data.toList q = r2 at FL hrd hq2
          obtain ⟨f1, q2⟩ := r2
          simp only at FL hrd hq2
          replace hrd := Lib.hid hrd
          obtain ⟨⟨d0, d1, d2, d3, d4⟩, d5⟩ := pe_cells P.out
          have hfar := P.out.far
          have hsz := P.out.size
          go_wp2
          go_region_law (first
            | (refine step_append_lies _ rfl _ _ 47 rfl (w4.heap.size + 1) 72 j0 _ 2 16 Tryd.underlying47 HJ.out.1 HJ.out.2.1 HJ.out.2.2.1 HJ.out.2.2.2 rfl (by decide) vg lg.length (gCells lg) rfl (P7.out.owg.alloc _) ⟨w7.heap.size, 0, none⟩ 1 1 [.int .i64 lv, .int .u64 f1] rfl rfl (news_two w7 _ _ _) (by simp [Value.oneCell']) (by omega) (by unfold maxLen; omega) (by omega) (by simp; omega) (w7.heap.size + 1) (by simp) ?_
               intro g cap w8 hown8 hgrow8 hwhere hlt8
               have HE := Lib.hid (And.intro hown8 (And.intro hgrow8 hwhere))
               have b8 : w8.heap[w4.heap.size]? = some (.cells #[.int .u64 (nx s.data.toList p0).1, .int .u64 (nx s.data.toList (p1 s.data.toList)).1, .int .u64 (nx s.data.toList (p2 s.data.toList)).1, va, vg] 49 (0, 0)) := (hgrow8.block _ (by simp; omega) (fun e => by have := P7.out.gfar _ e.symm; omega)).trans (pe_alloc P7.out _).b
               have D8 := cell_in b8 4 _ rfl
               have F8 := free_in b8 4
               clear hown8 hgrow8 hwhere hlt8 b8)
            | (go_simp; go_at_call 49; (with_reducible first | refine (FL.out _ P6.out.rd).mono ?_ | refine (FL.out _ (pe_drew P6.out).rd).mono ?_); rintro e w7 ⟨rfl, h7, g7⟩; have P7 : Hid (PE w s w4.heap.size (nx s.data.toList p0).1 (nx s.data.toList (p1 s.data.toList)).1 (nx s.data.toList (p2 s.data.toList)).1 va vg (cA s.data.toList).1 lg q2 w7) := (by first | exact pe_grown P6.out h7 g7 | exact pe_grown (pe_drew P6.out) h7 g7); obtain ⟨⟨u0, u1, u2, u3, u4⟩, u5⟩ := pe_cells P7.out; have hsz7 := P7.out.size; clear h7 g7)
            | (go_simp; go_at_call 51; (with_reducible first | refine (LV.out _ P.out.rd).mono ?_ | refine (LV.out _ (pe_drew P.out).rd).mono ?_); rintro e w6 ⟨rfl, h6, g6⟩; have P6 : Hid (PE w s w4.heap.size (nx s.data.toList p0).1 (nx s.data.toList (p1 s.data.toList)).1 (nx s.data.toList (p2 s.data.toList)).1 va vg (cA s.data.toList).1 lg q w6) := (by first | exact pe_grown P.out h6 g6 | exact pe_grown (pe_drew P.out) h6 g6); obtain ⟨⟨k0, k1, k2, k3, k4⟩, k5⟩ := pe_cells P6.out; have hsz6 := P6.out.size; clear h6 g6))
          all_goals
            go_wp2
            go_roundw
            case rel => exact ⟨i + 1, va, _, lg ++ [⟨lv, f1⟩], q2, by go_num, by omega, pe_putG (pe_alloc P7.out _) HE.out.2.1 (by rw [gCells_snoc, List.length_append]; exact HE.out.1) (fun k hk => by
              rcases HE.out.2.2 with e | e
              · left; rw [e]; exact hk
              · right; simp [Value.ownBlock] at hk; simp; omega), hq2, by rw [show n2 - (i + 1) = m by omega]; exact hrd.out, by have := hll.out; rw [List.length_append, List.length_singleton]; omega⟩
            case measure => simp [intOf]; omega
        · have hi2 : i = n2 := by omega
          have hga : gA s.data.toList = (lg, p) := by rw [← hrd, show n2 - i = 0 by omega]; rfl
          have hE : pEr s.data.toList = dEnd s.size p.1 p.2 := by unfold pEr; rw [hga]; rfl
          have hed : pEd s.data.toList = ⟨(nx s.data.toList p0).1, (nx s.data.toList (p1 s.data.toList)).1, (nx s.data.toList (p2 s.data.toList)).1, (cA s.data.toList).1, lg⟩ := by unfold pEd; rw [hga]
          have EN := Lib.hid fun (W : World) (h : Rd W (w.heap.size + 1) s p) => end_any h hs hat
          have hpa : Hid (parse s.data.toList = if dEnd s.size p.1 p.2 = 0 then (if chkE (pEd s.data.toList) = 0 then (pEd s.data.toList, 0) else (Edt.none, chkE (pEd s.data.toList))) else (Edt.none, dEnd s.size p.1 p.2)) := by rw [Hid]; unfold parse; rw [hE]
          have hok := pEd_ok (L := s.data.toList) (by exact hs)
          obtain ⟨A, c, hva, RA⟩ := arow_of_owns P.out.owa
          obtain ⟨G, d, hvg, RG⟩ := grow_of_owns P.out.owg
          subst hva hvg
          have hla := Lib.hid (show (cA s.data.toList).1.length ≤ 9223372036854775807 by omega)
          have LI : Lies wr (pEd s.data.toList) A G := by
            rw [hed] at hok ⊢
            exact ⟨RA, RG, hok, hla.out, by show lg.length ≤ _; omega⟩
          have CK := Lib.hid fun (k : Nat) => checkE_any c d (LI.on (show Below wr.heap.size wr (wr.drewN k) from ⟨rfl, rfl, rfl, Nat.le_refl _, fun _ _ => rfl⟩))
          have PD := Lib.hid (pe_drewN P.out)
          have HED := Lib.hid hed
          replace LI := Lib.hid LI
          have hval : (pEd s.data.toList).val A c G d = .agg #[.int .u64 (nx s.data.toList p0).1, .int .u64 (nx s.data.toList (p1 s.data.toList)).1, .int .u64 (nx s.data.toList (p2 s.data.toList)).1, .slice A (cA s.data.toList).1.length c, .slice G lg.length d] := by rw [hed]; rfl
          rw [hval] at CK
          replace hval := Lib.hid hval
          clear hed hga hrd hE RA RG hok
          generalize dEnd s.size p.1 p.2 = E at EN hpa
          generalize hZ : chkE (pEd s.data.toList) = Z at CK hpa
          replace hZ := Lib.hid hZ
          by_cases e0 : E = 0
          · subst e0
            by_cases z0 : Z = 0
            · subst z0
              have HP : Hid (parse s.data.toList = (pEd s.data.toList, 0)) := hpa.out.trans ((if_pos rfl).trans (if_pos rfl))
              clear hpa
              go_wp2_with (first
                | (go_at_call 53; (with_reducible refine (EN.out _ P.out.rd).mono ?_); rintro e w6 ⟨rfl, k, rfl⟩; have PK := Lib.hid (PD.out k); obtain ⟨⟨c0, c1, c2, c3, c4⟩, c5⟩ := pe_cells PK.out; obtain ⟨⟨k0, k1, k2, k3, k4⟩, k5⟩ := pe_box PK.out)
                | (go_at_call 20; (with_reducible refine (CK.out _).mono ?_); rintro e w7 ⟨rfl, b7⟩; have P7 := Lib.hid (pe_below PK.out b7); obtain ⟨⟨m0, m1, m2, m3, m4⟩, m5⟩ := pe_cells P7.out; obtain ⟨⟨h0, h1, h2, h3, h4⟩, h5⟩ := pe_box P7.out; clear b7))
              refine ret_edit rfl rfl rfl rfl (row_sets5 P7.out.box _ _ _ _ _) ⟨A, c, G, d, by rw [HP.out, hval.out], ?_, below_sets P7.out.below _ _ _ _ _⟩
              rw [HP.out]
              have hl := pe_lies P7.out (.int .u64 (nx s.data.toList p0).1) (.int .u64 (nx s.data.toList (p1 s.data.toList)).1) (.int .u64 (nx s.data.toList (p2 s.data.toList)).1) (.slice A (cA s.data.toList).1.length c) (.slice G lg.length d)
              obtain ⟨A', c', e1, r1⟩ := arow_of_owns hl.1
              obtain ⟨G', d', e2, r2⟩ := grow_of_owns hl.2
              injection e1 with e1 _ _
              injection e2 with e2 _ _
              subst e1 e2
              rw [HED.out]
              have hok := pEd_ok (L := s.data.toList) (by exact hs)
              rw [HED.out] at hok
              exact ⟨r1, r2, hok, hla.out, by show lg.length ≤ _; omega⟩
            · have z1 : (Z == 0) = false := by simpa using z0
              have z2 : (Z != 0) = true := by simp [bne, z1]
              have HP : Hid (parse s.data.toList = (Edt.none, Z)) := hpa.out.trans ((if_pos rfl).trans (if_neg z0))
              clear z0 hpa
              go_wp2_with (first
                | (go_at_call 53; (with_reducible refine (EN.out _ P.out.rd).mono ?_); rintro e w6 ⟨rfl, k, rfl⟩; have PK := Lib.hid (PD.out k); obtain ⟨⟨c0, c1, c2, c3, c4⟩, c5⟩ := pe_cells PK.out; obtain ⟨⟨k0, k1, k2, k3, k4⟩, k5⟩ := pe_box PK.out)
                | (go_at_call 20; (with_reducible refine (CK.out _).mono ?_); rintro e w7 ⟨rfl, b7⟩; have P7 := Lib.hid (pe_below PK.out b7); obtain ⟨⟨m0, m1, m2, m3, m4⟩, m5⟩ := pe_cells P7.out; obtain ⟨⟨h0, h1, h2, h3, h4⟩, h5⟩ := pe_box P7.out; clear b7))
              exact ret_edit rfl rfl rfl rfl (row_sets5 P7.out.box _ _ _ _ _) ⟨none, 0, none, 0, by rw [HP.out]; rfl, by rw [HP.out]; exact lies_none _, below_sets P7.out.below _ _ _ _ _⟩
          · have z1 : (E == 0) = false := by simpa using e0
            have z2 : (E != 0) = true := by simp [bne, z1]
            have HP : Hid (parse s.data.toList = (Edt.none, E)) := hpa.out.trans (if_neg e0)
            clear e0 hpa
            go_wp2_with (first
              | (go_at_call 53; (with_reducible refine (EN.out _ P.out.rd).mono ?_); rintro e w6 ⟨rfl, k, rfl⟩; have PK := Lib.hid (PD.out k); obtain ⟨⟨c0, c1, c2, c3, c4⟩, c5⟩ := pe_cells PK.out; obtain ⟨⟨k0, k1, k2, k3, k4⟩, k5⟩ := pe_box PK.out))
            exact ret_edit rfl rfl rfl rfl (row_sets5 PK.out.box _ _ _ _ _) ⟨none, 0, none, 0, by rw [HP.out]; rfl, by rw [HP.out]; exact lies_none _, below_sets PK.out.below _ _ _ _ _⟩
end Go.Proofs.YtkocekogkpemiaaDoor.Ed
