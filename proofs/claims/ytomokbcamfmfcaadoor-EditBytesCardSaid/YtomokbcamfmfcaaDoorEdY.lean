/-
  The document's own edits, walked: Parse. Conditions: as each theorem states.
-/
import Derived.Test.YtomokbcamfmfcaaDoorEdX
import Derived.Test.YtomokbcamfmfcaaDoorEdQ
namespace Go.Proofs.YtomokbcamfmfcaaDoor.Ed.Q
open Go.RowKit
open Go.Proofs.YtomokbcamfmfcaaDoor
open Vi Ba

abbrev qBox : Obj := .cells #[.int .u64 0, .int .u64 0, .int .u64 0, .slice none 0 0, .slice none 0 0] 44 (0, 0)
abbrev sBox (s : ByteArray) : Obj := .cells #[.string s, .int .i64 0, .int .i64 0] 90 (0, 0)
abbrev fBox : Array Value := #[.int .i64 0, .int .u64 0, .int .u64 0, .int .u64 0, .string ⟨#[]⟩, .string ⟨#[]⟩]
theorem pe_first (w : World) (s : ByteArray) : PE w s (w.heap.size + 1 + 1) 0 0 0 (.slice none 0 0) (.slice none 0 0) [] [] p0 (((w.alloc qBox).alloc (sBox s)).alloc qBox) := by
  have b1 : Below w.heap.size w (w.alloc qBox) := (Below.refl _ _).alloc (Nat.le_refl _) _
  have b2 : Below (w.alloc qBox).heap.size (w.alloc qBox) ((w.alloc qBox).alloc (sBox s)) := (Below.refl _ _).alloc (Nat.le_refl _) _
  have b3 : Below ((w.alloc qBox).alloc (sBox s)).heap.size ((w.alloc qBox).alloc (sBox s)) (((w.alloc qBox).alloc (sBox s)).alloc qBox) := (Below.refl _ _).alloc (Nat.le_refl _) _
  have z1 : (w.alloc qBox).heap.size = w.heap.size + 1 := by simp
  have z2 : ((w.alloc qBox).alloc (sBox s)).heap.size = w.heap.size + 1 + 1 := by simp
  refine ⟨?_, ?_, ?_, World.ownsRow_nil _ _ _ _, World.ownsRow_nil _ _ _ _, fun k _ => by simp [Value.ownBlock], ?_, by omega⟩
  · unfold Rd RdAt
    rw [b3.block _ (by omega), ← z1]; exact heap_alloc_new _ _
  · rw [b3.block _ (by omega), b2.block _ (by omega)]; exact heap_alloc_new _ _
  · rw [← z2]; exact heap_alloc_new _ _
  · exact (b1.trans (b2.mono (by omega))).trans (b3.mono (by omega))
theorem fcells {g : Nat} {t : TypeId} {wr : World} {x0 x1 x2 x3 x4 x5 : Value} (h : wr.heap[g]? = some (.cells #[x0, x1, x2, x3, x4, x5] t (0, 0))) :
    (wr.cell? ⟨g, 0, none⟩ = some x0 ∧ wr.cell? ⟨g, 1, none⟩ = some x1 ∧ wr.cell? ⟨g, 2, none⟩ = some x2 ∧ wr.cell? ⟨g, 3, none⟩ = some x3 ∧ wr.cell? ⟨g, 4, none⟩ = some x4 ∧ wr.cell? ⟨g, 5, none⟩ = some x5) ∧ ∀ j, wr.frozen? ⟨g, j, none⟩ = false :=
  ⟨⟨cell_in h 0 _ rfl, cell_in h 1 _ rfl, cell_in h 2 _ rfl, cell_in h 3 _ rfl, cell_in h 4 _ rfl, cell_in h 5 _ rfl⟩, free_in h⟩
theorem gcells {g : Nat} {t : TypeId} {wr : World} {x0 x1 : Value} (h : wr.heap[g]? = some (.cells #[x0, x1] t (0, 0))) :
    (wr.cell? ⟨g, 0, none⟩ = some x0 ∧ wr.cell? ⟨g, 1, none⟩ = some x1) ∧ ∀ j, wr.frozen? ⟨g, j, none⟩ = false :=
  ⟨⟨cell_in h 0 _ rfl, cell_in h 1 _ rfl⟩, free_in h⟩
theorem news6 (W : World) (k : Nat) (hk : k = W.heap.size) (x0 x1 x2 x3 x4 x5 : Value) (t : TypeId) : ∀ j y, [x0, x1, x2, x3, x4, x5][j]? = some y → (W.alloc (.cells #[x0, x1, x2, x3, x4, x5] t)).cell? ((⟨k, 0, none⟩ : Addr).add j) = some y := by
  subst hk
  exact World.news_of_block (heap_alloc_new W _)
theorem news2 (W : World) (k : Nat) (hk : k = W.heap.size) (x0 x1 : Value) (t : TypeId) : ∀ j y, [x0, x1][j]? = some y → (W.alloc (.cells #[x0, x1] t)).cell? ((⟨k, 0, none⟩ : Addr).add j) = some y := by
  subst hk
  exact World.news_of_block (heap_alloc_new W _)
theorem qret_edit {f : Func} (hf : f.results = #[.cell 2 44, .tmp 3]) {R : Ending → World → Prop} {a : Act} {wf : World} {x0 x1 x2 x3 x4 : Value} {n : Int} {g : Nat}
    (h2 : a.tmps.getD 2 undef = .pointer (some ⟨g, 0, none⟩)) (h3 : a.tmps.getD 3 undef = .int .i64 n) (hd : a.defers = [])
    (hrow : wf.heap[g]? = some (.cells #[x0, x1, x2, x3, x4] 44 (0, 0)))
    (hR : R (.returned (.tuple #[.agg #[x0, x1, x2, x3, x4], .int .i64 n])) wf) : bodyPost Tryd.prog f R .ret a wf := by
  obtain ⟨⟨k0, k1, k2, k3, k4⟩, _⟩ := cells5 hrow
  have g2 : a.tmps[2]?.getD undef = .pointer (some ⟨g, 0, none⟩) := by simpa using h2
  have g3 : a.tmps[3]?.getD undef = .int .i64 n := by simpa using h3
  exact bodyPost_ret (v := .tuple #[.agg #[x0, x1, x2, x3, x4], .int .i64 n]) (by simp [results, hf, g2, g3, go_sem, k0, k1, k2, k3, k4]) hd hR
theorem pe_lies {w : World} {s : ByteArray} {kb x y z : Nat} {va vg : Value} {la : List Fil} {lg : List Gon} {p : Pt} {W : World} (h : PE w s kb x y z va vg la lg p W) (v0 v1 v2 v3 v4 : Value) :
    (sets5 W w.heap.size v0 v1 v2 v3 v4).ownsRow (kb + 1) 85 6 va la.length (aCells la) ∧ (sets5 W w.heap.size v0 v1 v2 v3 v4).ownsRow (kb + 1) 86 2 vg lg.length (gCells lg) := by
  have hg := grown_sets W w.heap.size v0 v1 v2 v3 v4
  have hf := h.far
  exact ⟨h.owa.kept hg (.inr fun e => by have := h.afar _ e; omega), h.owg.kept hg (.inr fun e => by have := h.gfar _ e; omega)⟩
def PaR (w : World) (s : ByteArray) (n : Nat) (iv : Value) (W : World) : Prop :=
  ∃ (i : Nat) (va : Value) (la : List Fil) (p : Pt), iv = .int .u64 i ∧ i ≤ n ∧ PE w s (w.heap.size + 1 + 1) (nx s.data.toList p0).1 (nx s.data.toList (p1 s.data.toList)).1 (nx s.data.toList (p2 s.data.toList)).1 va (.slice none 0 0) la [] p W ∧ p.1 ≤ s.size ∧ raAs s.data.toList (n - i) p la = kA s.data.toList ∧ la.length ≤ 200 ∧ la.length ≤ i ∧ (n ≤ 200 ∨ ¬ p.2 = 0)
def PgR (w : World) (s : ByteArray) (n : Nat) (iv : Value) (W : World) : Prop :=
  ∃ (i : Nat) (va vg : Value) (lg : List Gon) (p : Pt), iv = .int .u64 i ∧ i ≤ n ∧ PE w s (w.heap.size + 1 + 1) (nx s.data.toList p0).1 (nx s.data.toList (p1 s.data.toList)).1 (nx s.data.toList (p2 s.data.toList)).1 va vg (kA s.data.toList).1 lg p W ∧ p.1 ≤ s.size ∧ raGs s.data.toList (n - i) p lg = hA s.data.toList ∧ lg.length ≤ 200 ∧ lg.length ≤ i ∧ (n ≤ 200 ∨ ¬ p.2 = 0)
set_option maxHeartbeats 4000000 in
set_option maxRecDepth 100000 in
theorem qparse_any (s : ByteArray) (hs : s.size ≤ 1000000) (w : World) :
    Calls Tryd.prog 17 #[.string s] w (EpPost w s) := by
  obtain ⟨i0, hi, hz0, hz1, hz2⟩ := info_parts infoAt
  have HI := Lib.hid (And.intro hi (And.intro hz0 (And.intro hz1 hz2)))
  clear hi hz0 hz1 hz2
  obtain ⟨j0, hi, hz0, hz1, hz2⟩ := info_parts infoGone
  have HJ := Lib.hid (And.intro hi (And.intro hz0 (And.intro hz1 hz2)))
  clear hi hz0 hz1 hz2
  have a1 : (p1 s.data.toList).1 ≤ s.size := nx_at (show (p0).1 ≤ s.data.toList.length by simp [p0])
  have a2 : (p2 s.data.toList).1 ≤ s.size := nx_at a1
  have a3 : (p3 s.data.toList).1 ≤ s.size := nx_at a2
  have ac : (kN s.data.toList).2.1 ≤ s.size := rdC_at a3
  have N1 : Hid (∀ (W : World), Rd W (w.heap.size + 1) s p0 → Calls Tryd.prog 38 #[.pointer (some ⟨w.heap.size + 1, 0, none⟩)] W (RdP W (w.heap.size + 1) s (.int .u64 (nx s.data.toList p0).1) (p1 s.data.toList))) := fun W h => num_rd h hs (by simp [p0])
  have N2 : Hid (∀ (W : World), Rd W (w.heap.size + 1) s (p1 s.data.toList) → Calls Tryd.prog 38 #[.pointer (some ⟨w.heap.size + 1, 0, none⟩)] W (RdP W (w.heap.size + 1) s (.int .u64 (nx s.data.toList (p1 s.data.toList)).1) (p2 s.data.toList))) := fun W h => num_rd h hs a1
  have N3 : Hid (∀ (W : World), Rd W (w.heap.size + 1) s (p2 s.data.toList) → Calls Tryd.prog 38 #[.pointer (some ⟨w.heap.size + 1, 0, none⟩)] W (RdP W (w.heap.size + 1) s (.int .u64 (nx s.data.toList (p2 s.data.toList)).1) (p3 s.data.toList))) := fun W h => num_rd h hs a2
  have F4 : Hid (∀ (W : World), Rd W (w.heap.size + 1) s (p3 s.data.toList) → Calls Tryd.prog 39 #[.pointer (some ⟨w.heap.size + 1, 0, none⟩)] W (RdP W (w.heap.size + 1) s (.int .u64 (kN s.data.toList).1) (kN s.data.toList).2)) := fun W h => count_rd h hs a3
  have clt : (kN s.data.toList).1 < 18446744073709551616 := rdC_lt _ _
  have cfew : (kN s.data.toList).1 ≤ 200 ∨ ¬ (kN s.data.toList).2.2 = 0 := rdC_few _ _
  have HR : Hid (raAs s.data.toList ((kN s.data.toList).1 - 0) (kN s.data.toList).2 [] = kA s.data.toList) := rfl
  have P0 := Lib.hid (pe_first w s)
  clear a1 a2 a3
  generalize hcn : kN s.data.toList = cn at F4 clt cfew HR ac
  obtain ⟨n, pc⟩ := cn
  simp only at F4 clt cfew HR ac
  replace cfew := Lib.hid cfew
  clear hcn
  go_enter Tryd.func17, Tryd.ntmps17
  go_wp2_with (first
    | (go_at_call 39; (with_reducible refine (F4.out _ (pe_set2 P3.out _).rd).mono ?_); rintro e w4 ⟨rfl, h4, g4⟩; have P4 := Lib.hid (pe_grown (pe_set2 P3.out (nx s.data.toList (p2 s.data.toList)).1) h4 g4); clear h4 g4)
    | (go_at_call 38; have Z := P2; (with_reducible refine (N3.out _ (pe_set1 P2.out _).rd).mono ?_); rintro e w3 ⟨rfl, h3, g3⟩; have P3 := Lib.hid (pe_grown (pe_set1 P2.out (nx s.data.toList (p1 s.data.toList)).1) h3 g3); obtain ⟨⟨c0, c1, c2, c3, c4⟩, c5⟩ := pe_cells P3.out; clear h3 g3)
    | (go_at_call 38; have Z := P1; (with_reducible refine (N2.out _ (pe_set0 P1.out _).rd).mono ?_); rintro e w2 ⟨rfl, h2, g2⟩; have P2 := Lib.hid (pe_grown (pe_set0 P1.out (nx s.data.toList p0).1) h2 g2); obtain ⟨⟨b0, b1, b2, b3, b4⟩, b5⟩ := pe_cells P2.out; clear h2 g2)
    | (go_at_call 38; (with_reducible refine (N1.out _ P0.out.rd).mono ?_); rintro e w1 ⟨rfl, h1, g1⟩; have P1 := Lib.hid (pe_grown P0.out h1 g1); obtain ⟨⟨a0, a1, a2, a3, a4⟩, a5⟩ := pe_cells P1.out; clear h1 g1))
  clear N1 N2 N3 F4 P0 P1 P2 P3
  go_loopw [7] (PaR w s n) (fun i _ => n - (intOf i).toNat)
  case atStart => exact ⟨0, _, [], pc, rfl, by omega, P4.out, ac, HR.out, by simp, by simp, cfew.out⟩
  case round =>
    obtain ⟨i, va, la, p, rfl, hin, P, hat, hrd, hll, hli, hfew⟩ := hrel
    replace P := Lib.hid P
    clear P4 HR
    by_cases hlt : i < n ∧ p.2 = 0
    · obtain ⟨hlt, hp0⟩ := hlt
      have hn2 : n ≤ 200 := by rcases hfew with h | h; exact h; exact absurd hp0 h
      clear clt cfew hfew
      have hb0 := pe_rd2 P.out
      rw [hp0] at hb0
      obtain ⟨m, hm⟩ : ∃ m, n - i = m + 1 := ⟨n - i - 1, by omega⟩
      rw [hm, raAs_on hp0] at hrd
      clear hp0
      have LV := Lib.hid fun (W : World) (h : Rd W (w.heap.size + 1) s p) => level_rd h hs hat
      have h0 : (rdV s.data.toList p).2.1 ≤ s.size := rdV_at hat
      have M1 := Lib.hid fun (W : World) (h : Rd W (w.heap.size + 1) s (rdV s.data.toList p).2) => num_rd h hs h0
      have h1 : (nx s.data.toList (rdV s.data.toList p).2).2.1 ≤ s.size := nx_at h0
      have M2 := Lib.hid fun (W : World) (h : Rd W (w.heap.size + 1) s (nx s.data.toList (rdV s.data.toList p).2).2) => num_rd h hs h1
      have h2 : (nx s.data.toList (nx s.data.toList (rdV s.data.toList p).2).2).2.1 ≤ s.size := nx_at h1
      have M3 := Lib.hid fun (W : World) (h : Rd W (w.heap.size + 1) s (nx s.data.toList (nx s.data.toList (rdV s.data.toList p).2).2).2) => num_rd h hs h2
      have h3 : (nx s.data.toList (nx s.data.toList (nx s.data.toList (rdV s.data.toList p).2).2).2).2.1 ≤ s.size := nx_at h2
      have T4 := Lib.hid fun (W : World) (h : Rd W (w.heap.size + 1) s (nx s.data.toList (nx s.data.toList (nx s.data.toList (rdV s.data.toList p).2).2).2).2) => text_rd h hs h3
      have h4 : (tx s.data.toList (nx s.data.toList (nx s.data.toList (nx s.data.toList (rdV s.data.toList p).2).2).2).2).2.1 ≤ s.size := tx_at h3
      have T5 := Lib.hid fun (W : World) (h : Rd W (w.heap.size + 1) s (tx s.data.toList (nx s.data.toList (nx s.data.toList (nx s.data.toList (rdV s.data.toList p).2).2).2).2).2) => text_rd h hs h4
      have h5 : (tx s.data.toList (tx s.data.toList (nx s.data.toList (nx s.data.toList (nx s.data.toList (rdV s.data.toList p).2).2).2).2).2).2.1 ≤ s.size := tx_at h4
      have hA : rdA s.data.toList p = (⟨(rdV s.data.toList p).1, (nx s.data.toList (rdV s.data.toList p).2).1, (nx s.data.toList (nx s.data.toList (rdV s.data.toList p).2).2).1, (nx s.data.toList (nx s.data.toList (nx s.data.toList (rdV s.data.toList p).2).2).2).1, bs (tx s.data.toList (nx s.data.toList (nx s.data.toList (nx s.data.toList (rdV s.data.toList p).2).2).2).2).1, bs (tx s.data.toList (tx s.data.toList (nx s.data.toList (nx s.data.toList (nx s.data.toList (rdV s.data.toList p).2).2).2).2).2).1⟩, (tx s.data.toList (tx s.data.toList (nx s.data.toList (nx s.data.toList (nx s.data.toList (rdV s.data.toList p).2).2).2).2).2).2) := rfl
      rw [hA] at hrd
      clear hA h0 h1 h2 h3 h4
      generalize rdV s.data.toList p = r at LV M1 M2 M3 T4 T5 hrd h5
      obtain ⟨lv, q0⟩ := r
      simp only at LV M1 M2 M3 T4 T5 hrd h5
      generalize nx s.data.toList q0 = r at M1 M2 M3 T4 T5 hrd h5
      obtain ⟨f1, q1⟩ := r
      simp only at M1 M2 M3 T4 T5 hrd h5
      generalize nx s.data.toList q1 = r at M2 M3 T4 T5 hrd h5
      obtain ⟨f2, q2⟩ := r
      simp only at M2 M3 T4 T5 hrd h5
      generalize nx s.data.toList q2 = r at M3 T4 T5 hrd h5
      obtain ⟨f3, q3⟩ := r
      simp only at M3 T4 T5 hrd h5
      generalize tx s.data.toList q3 = r at T4 T5 hrd h5
      obtain ⟨f4, q4⟩ := r
      simp only at T4 T5 hrd h5
      generalize tx s.data.toList q4 = r at T5 hrd h5
      obtain ⟨f5, q5⟩ := r
      simp only at T5 hrd h5
      generalize bs f4 = f4 at *
      generalize bs f5 = f5 at *
      replace hrd := Lib.hid hrd
      have B0 := Lib.hid (pb_start P.out fBox 85)
      have hkk := B0.out.kk
      go_wp2_with (first
        | (go_at_call 41; have Z := B5; (with_reducible refine (T5.out _ (pb_set B5.out 4 _).pe.rd).mono ?_); rintro e v6 ⟨rfl, h, g⟩; have B6 : Hid (PB w s (w.heap.size + 1 + 1) (nx s.data.toList p0).1 (nx s.data.toList (p1 s.data.toList)).1 (nx s.data.toList (p2 s.data.toList)).1 va (.slice none 0 0) la [] wr.heap.size #[.int .i64 lv, .int .u64 f1, .int .u64 f2, .int .u64 f3, .string f4, .string ⟨#[]⟩] 85 q5 v6) := pb_post (pb_set B5.out 4 (.string f4)) h g; obtain ⟨⟨x0, x1, x2, x3, x4, x5⟩, x6⟩ := fcells B6.out.ab; have B7 := Lib.hid (pb_set B6.out 5 (.string f5)); obtain ⟨⟨y0, y1, y2, y3, y4, y5⟩, y6⟩ := fcells B7.out.ab; obtain ⟨⟨u0, u1, u2, u3, u4⟩, u5⟩ := pe_cells B7.out.pe; have hsz6 := pb_size B6.out; clear h g)
        | (go_at_call 41; have Z := B4; (with_reducible refine (T4.out _ (pb_set B4.out 3 _).pe.rd).mono ?_); rintro e v5 ⟨rfl, h, g⟩; have B5 : Hid (PB w s (w.heap.size + 1 + 1) (nx s.data.toList p0).1 (nx s.data.toList (p1 s.data.toList)).1 (nx s.data.toList (p2 s.data.toList)).1 va (.slice none 0 0) la [] wr.heap.size #[.int .i64 lv, .int .u64 f1, .int .u64 f2, .int .u64 f3, .string ⟨#[]⟩, .string ⟨#[]⟩] 85 q4 v5) := pb_post (pb_set B4.out 3 (.int .u64 f3)) h g; obtain ⟨⟨x0, x1, x2, x3, x4, x5⟩, x6⟩ := fcells B5.out.ab; clear h g)
        | (go_at_call 38; have Z := B3; (with_reducible refine (M3.out _ (pb_set B3.out 2 _).pe.rd).mono ?_); rintro e v4 ⟨rfl, h, g⟩; have B4 : Hid (PB w s (w.heap.size + 1 + 1) (nx s.data.toList p0).1 (nx s.data.toList (p1 s.data.toList)).1 (nx s.data.toList (p2 s.data.toList)).1 va (.slice none 0 0) la [] wr.heap.size #[.int .i64 lv, .int .u64 f1, .int .u64 f2, .int .u64 0, .string ⟨#[]⟩, .string ⟨#[]⟩] 85 q3 v4) := pb_post (pb_set B3.out 2 (.int .u64 f2)) h g; obtain ⟨⟨x0, x1, x2, x3, x4, x5⟩, x6⟩ := fcells B4.out.ab; clear h g)
        | (go_at_call 38; have Z := B2; (with_reducible refine (M2.out _ (pb_set B2.out 1 _).pe.rd).mono ?_); rintro e v3 ⟨rfl, h, g⟩; have B3 : Hid (PB w s (w.heap.size + 1 + 1) (nx s.data.toList p0).1 (nx s.data.toList (p1 s.data.toList)).1 (nx s.data.toList (p2 s.data.toList)).1 va (.slice none 0 0) la [] wr.heap.size #[.int .i64 lv, .int .u64 f1, .int .u64 0, .int .u64 0, .string ⟨#[]⟩, .string ⟨#[]⟩] 85 q2 v3) := pb_post (pb_set B2.out 1 (.int .u64 f1)) h g; obtain ⟨⟨x0, x1, x2, x3, x4, x5⟩, x6⟩ := fcells B3.out.ab; clear h g)
        | (go_at_call 38; have Z := B1; (with_reducible refine (M1.out _ (pb_set B1.out 0 _).pe.rd).mono ?_); rintro e v2 ⟨rfl, h, g⟩; have B2 : Hid (PB w s (w.heap.size + 1 + 1) (nx s.data.toList p0).1 (nx s.data.toList (p1 s.data.toList)).1 (nx s.data.toList (p2 s.data.toList)).1 va (.slice none 0 0) la [] wr.heap.size #[.int .i64 lv, .int .u64 0, .int .u64 0, .int .u64 0, .string ⟨#[]⟩, .string ⟨#[]⟩] 85 q1 v2) := pb_post (pb_set B1.out 0 (.int .i64 lv)) h g; obtain ⟨⟨x0, x1, x2, x3, x4, x5⟩, x6⟩ := fcells B2.out.ab; clear h g)
        | (go_at_call 40; (with_reducible refine (LV.out _ B0.out.pe.rd).mono ?_); rintro e v1 ⟨rfl, h, g⟩; have B1 : Hid (PB w s (w.heap.size + 1 + 1) (nx s.data.toList p0).1 (nx s.data.toList (p1 s.data.toList)).1 (nx s.data.toList (p2 s.data.toList)).1 va (.slice none 0 0) la [] wr.heap.size #[.int .i64 0, .int .u64 0, .int .u64 0, .int .u64 0, .string ⟨#[]⟩, .string ⟨#[]⟩] 85 q0 v1) := pb_post B0.out h g; obtain ⟨⟨x0, x1, x2, x3, x4, x5⟩, x6⟩ := fcells B1.out.ab; clear h g)
        | (at_builtin
           refine wpList_append_lies _ rfl _ _ 41 rfl (w.heap.size + 1 + 1 + 1) 85 i0 _ 6 64 Tryd.underlying41 HI.out.1 HI.out.2.1 HI.out.2.2.1 HI.out.2.2.2 rfl (by decide) va la.length (aCells la) rfl (B7.out.pe.owa.alloc _) ⟨v6.heap.size, 0, none⟩ 1 1 [.int .i64 lv, .int .u64 f1, .int .u64 f2, .int .u64 f3, .string f4, .string f5] rfl rfl (news6 _ _ (by simp [World.setCell]) _ _ _ _ _ _ _) (by simp [Value.oneCell']) (by omega) (by unfold maxLen; omega) (by omega) (by simp [World.setCell]; omega) (v6.heap.size + 1) (by simp [World.setCell]) ?_
           intro g cap w8 hown8 hgrow8 hwhere hlt8
           have HE := Lib.hid (And.intro hown8 hgrow8)
           have b8 : w8.heap[w.heap.size + 1 + 1]? = some (.cells #[.int .u64 (nx s.data.toList p0).1, .int .u64 (nx s.data.toList (p1 s.data.toList)).1, .int .u64 (nx s.data.toList (p2 s.data.toList)).1, va, .slice none 0 0] 44 (0, 0)) := (hgrow8.block _ (by simp [World.setCell]; omega) (fun e => by have := B7.out.pe.afar _ e.symm; omega)).trans (pe_alloc B7.out.pe _).b
           have D8 := cell_in b8 3 _ rfl
           have F8 := free_in b8 3
           clear hown8 hgrow8 hwhere hlt8 b8))
      go_roundw
      case rel => exact ⟨i + 1, _, la ++ [⟨lv, f1, f2, f3, f4, f5⟩], q5, by go_num, by omega, pe_putA (pe_alloc B7.out.pe _) HE.out.2 (by rw [aCells_snoc, List.length_append]; exact HE.out.1), h5, by rw [show n - (i + 1) = m by omega]; exact hrd.out, by simp; omega, by simp; omega, .inl hn2⟩
      case measure => simp [intOf]; omega
    · have hka : kA s.data.toList = (la, p) := by
        rw [← hrd]
        by_cases h1 : i < n
        · exact raAs_bad (fun h2 => hlt ⟨h1, h2⟩)
        · rw [show n - i = 0 by omega]; rfl
      have hb0 := pe_rd2 P.out
      have ag : (hN s.data.toList).2.1 ≤ s.size := by unfold hN; rw [hka]; exact rdC_at hat
      have glt : (hN s.data.toList).1 < 18446744073709551616 := rdC_lt _ _
      have gfew : (hN s.data.toList).1 ≤ 200 ∨ ¬ (hN s.data.toList).2.2 = 0 := rdC_few _ _
      have F4 : Hid (∀ (W : World), Rd W (w.heap.size + 1) s p → Calls Tryd.prog 39 #[.pointer (some ⟨w.heap.size + 1, 0, none⟩)] W (RdP W (w.heap.size + 1) s (.int .u64 (hN s.data.toList).1) (hN s.data.toList).2)) := fun W h => by
        have := count_rd h hs hat
        unfold hN; rw [hka]; exact this
      have HR : Hid (raGs s.data.toList ((hN s.data.toList).1 - 0) (hN s.data.toList).2 [] = hA s.data.toList) := rfl
      have hla : la = (kA s.data.toList).1 := by rw [hka]
      clear hka hrd hat hfew cfew
      generalize hN s.data.toList = gn at F4 glt gfew HR ag
      obtain ⟨n2, pg⟩ := gn
      simp only at F4 glt gfew HR ag
      replace gfew := Lib.hid gfew
      obtain ⟨at_, er⟩ := p
      simp only at F4 hb0
      subst hla
      have HL := Lib.hid hll
      by_cases h1 : i < n
      case' pos =>
        have hp : (er == 0) = false := by simpa using fun h2 => hlt ⟨h1, h2⟩
        have hp2 : ¬ er = 0 := fun h2 => hlt ⟨h1, h2⟩
      all_goals
        clear hlt
        go_wp2_with (go_at_call 39; (with_reducible refine (F4.out _ P.out.rd).mono ?_); rintro e w5 ⟨rfl, h5, g5⟩; have P5 := Lib.hid (pe_grown P.out h5 g5); clear h5 g5)
        go_loopw [9] (PgR w s n2) (fun i _ => n2 - (intOf i).toNat)
        case atStart => exact ⟨0, va, _, [], pg, rfl, by omega, P5.out, ag, HR.out, by simp, by simp, gfew.out⟩
        case round =>
          clear P5 HR F4 P hin hll hli hb0 ag
          obtain ⟨i, va, vg, lg, p, rfl, hin, P, hat, hrd, hll, hli, hfew⟩ := hrel
          replace P := Lib.hid P
          have hb0 := pe_rd2 P.out
          by_cases hlt : i < n2 ∧ p.2 = 0
          · obtain ⟨hlt, hp0⟩ := hlt
            have hn2 : n2 ≤ 200 := by rcases hfew with h | h; exact h; exact absurd hp0 h
            clear glt gfew hfew
            rw [hp0] at hb0
            obtain ⟨m, hm⟩ : ∃ m, n2 - i = m + 1 := ⟨n2 - i - 1, by omega⟩
            rw [hm, raGs_on hp0] at hrd
            clear hp0
            have LV := Lib.hid fun (W : World) (h : Rd W (w.heap.size + 1) s p) => level_rd h hs hat
            have h0 : (rdV s.data.toList p).2.1 ≤ s.size := rdV_at hat
            have M1 := Lib.hid fun (W : World) (h : Rd W (w.heap.size + 1) s (rdV s.data.toList p).2) => num_rd h hs h0
            have h5 : (nx s.data.toList (rdV s.data.toList p).2).2.1 ≤ s.size := nx_at h0
            have hA : rdG s.data.toList p = (⟨(rdV s.data.toList p).1, (nx s.data.toList (rdV s.data.toList p).2).1⟩, (nx s.data.toList (rdV s.data.toList p).2).2) := rfl
            rw [hA] at hrd
            clear hA h0
            generalize rdV s.data.toList p = r at LV M1 hrd h5
            obtain ⟨lv, q0⟩ := r
            simp only at LV M1 hrd h5
            generalize nx s.data.toList q0 = r at M1 hrd h5
            obtain ⟨f1, q1⟩ := r
            simp only at M1 hrd h5
            replace hrd := Lib.hid hrd
            have B0 := Lib.hid (pb_start P.out #[.int .i64 0, .int .u64 0] 86)
            have hkk := B0.out.kk
            go_wp2_with (first
              | (go_at_call 38; have Z := B1; (with_reducible refine (M1.out _ (pb_set B1.out 0 _).pe.rd).mono ?_); rintro e v2 ⟨rfl, h, g⟩; have B2 : Hid (PB w s (w.heap.size + 1 + 1) (nx s.data.toList p0).1 (nx s.data.toList (p1 s.data.toList)).1 (nx s.data.toList (p2 s.data.toList)).1 va vg (kA s.data.toList).1 lg wr.heap.size #[.int .i64 lv, .int .u64 0] 86 q1 v2) := pb_post (pb_set B1.out 0 (.int .i64 lv)) h g; obtain ⟨⟨x0, x1⟩, x6⟩ := gcells B2.out.ab; have B3 := Lib.hid (pb_set B2.out 1 (.int .u64 f1)); obtain ⟨⟨y0, y1⟩, y6⟩ := gcells B3.out.ab; obtain ⟨⟨u0, u1, u2, u3, u4⟩, u5⟩ := pe_cells B3.out.pe; have hsz6 := pb_size B2.out; clear h g)
              | (go_at_call 40; (with_reducible refine (LV.out _ B0.out.pe.rd).mono ?_); rintro e v1 ⟨rfl, h, g⟩; have B1 : Hid (PB w s (w.heap.size + 1 + 1) (nx s.data.toList p0).1 (nx s.data.toList (p1 s.data.toList)).1 (nx s.data.toList (p2 s.data.toList)).1 va vg (kA s.data.toList).1 lg wr.heap.size #[.int .i64 0, .int .u64 0] 86 q0 v1) := pb_post B0.out h g; obtain ⟨⟨x0, x1⟩, x6⟩ := gcells B1.out.ab; clear h g)
              | (at_builtin
                 refine wpList_append_lies _ rfl _ _ 42 rfl (w.heap.size + 1 + 1 + 1) 86 j0 _ 2 16 Tryd.underlying42 HJ.out.1 HJ.out.2.1 HJ.out.2.2.1 HJ.out.2.2.2 rfl (by decide) vg lg.length (gCells lg) rfl (B3.out.pe.owg.alloc _) ⟨v2.heap.size, 0, none⟩ 1 1 [.int .i64 lv, .int .u64 f1] rfl rfl (news2 _ _ (by simp [World.setCell]) _ _ _) (by simp [Value.oneCell']) (by omega) (by unfold maxLen; omega) (by omega) (by simp [World.setCell]; omega) (v2.heap.size + 1) (by simp [World.setCell]) ?_
                 intro g cap w8 hown8 hgrow8 hwhere hlt8
                 have HE := Lib.hid (And.intro hown8 (And.intro hgrow8 hwhere))
                 have b8 : w8.heap[w.heap.size + 1 + 1]? = some (.cells #[.int .u64 (nx s.data.toList p0).1, .int .u64 (nx s.data.toList (p1 s.data.toList)).1, .int .u64 (nx s.data.toList (p2 s.data.toList)).1, va, vg] 44 (0, 0)) := (hgrow8.block _ (by simp [World.setCell]; omega) (fun e => by have := B3.out.pe.gfar _ e.symm; omega)).trans (pe_alloc B3.out.pe _).b
                 have D8 := cell_in b8 4 _ rfl
                 have F8 := free_in b8 4
                 clear hown8 hgrow8 hwhere hlt8 b8))
            go_roundw
            case rel => exact ⟨i + 1, va, _, lg ++ [⟨lv, f1⟩], q1, by go_num, by omega, pe_putG (pe_alloc B3.out.pe _) HE.out.2.1 (by rw [gCells_snoc, List.length_append]; exact HE.out.1) (fun k hk => by
              rcases HE.out.2.2 with e | e
              · left; rw [e]; exact hk
              · right; simp [Value.ownBlock] at hk; simp [World.setCell]; (try simp [World.setCell] at e); omega), h5, by rw [show n2 - (i + 1) = m by omega]; exact hrd.out, by simp; omega, by simp; omega, .inl hn2⟩
            case measure => simp [intOf]; omega
          · have hga : hA s.data.toList = (lg, p) := by
              rw [← hrd]
              by_cases h2 : i < n2
              · exact raGs_bad (fun h3 => hlt ⟨h2, h3⟩)
              · rw [show n2 - i = 0 by omega]; rfl
            have hE : pEr s.data.toList = dEnd s.size p.1 p.2 := by rw [← qEr_same, hga]; rfl
            have hed : qEd s.data.toList = ⟨(nx s.data.toList p0).1, (nx s.data.toList (p1 s.data.toList)).1, (nx s.data.toList (p2 s.data.toList)).1, (kA s.data.toList).1, lg⟩ := by unfold qEd; rw [hga]
            have EN := Lib.hid fun (W : World) (h : Rd W (w.heap.size + 1) s p) => qend_any h hs hat
            have hpa : Hid (parse s.data.toList = if dEnd s.size p.1 p.2 = 0 then (if chkE (qEd s.data.toList) = 0 then (qEd s.data.toList, 0) else (Edt.none, chkE (qEd s.data.toList))) else (Edt.none, dEnd s.size p.1 p.2)) := by
              rw [Hid]; unfold parse; rw [hE]
              by_cases h0 : dEnd s.size p.1 p.2 = 0
              · rw [qEd_same (hE.trans h0)]
              · rw [if_neg h0, if_neg h0]
            have hok := qEd_ok (L := s.data.toList) (by exact hs)
            obtain ⟨A, c, hva, RA⟩ := arow_of_owns P.out.owa
            obtain ⟨G, d, hvg, RG⟩ := grow_of_owns P.out.owg
            subst hva hvg
            have hla := Lib.hid (show (kA s.data.toList).1.length ≤ 9223372036854775807 from Nat.le_trans HL.out (by decide))
            have LI : Lies wr (qEd s.data.toList) A G := by
              rw [hed] at hok ⊢
              exact ⟨RA, RG, hok, hla.out, by show lg.length ≤ _; omega⟩
            have CK := Lib.hid fun (k : Nat) => rcheck_any c d (LI.on (show Below wr.heap.size wr (wr.drewN k) from ⟨rfl, rfl, rfl, Nat.le_refl _, fun _ _ => rfl⟩))
            have PD := Lib.hid (pe_drewN P.out)
            have HED := Lib.hid hed
            replace LI := Lib.hid LI
            have hval : (qEd s.data.toList).val A c G d = .agg #[.int .u64 (nx s.data.toList p0).1, .int .u64 (nx s.data.toList (p1 s.data.toList)).1, .int .u64 (nx s.data.toList (p2 s.data.toList)).1, .slice A (kA s.data.toList).1.length c, .slice G lg.length d] := by rw [hed]; rfl
            rw [hval] at CK
            replace hval := Lib.hid hval
            have hlg := Lib.hid hll
            clear hed hga hrd hE RA RG hok hll hli glt gfew
            generalize hZ : chkE (qEd s.data.toList) = Z at CK hpa
            replace hZ := Lib.hid hZ
            by_cases h2 : i < n2
            · have hp2 : ¬ p.2 = 0 := fun h3 => hlt ⟨h2, h3⟩
              have hp : (p.2 == 0) = false := by simpa using hp2
              have e0 : ¬ dEnd s.size p.1 p.2 = 0 := by rw [dEnd_bad hp2]; exact hp2
              generalize dEnd s.size p.1 p.2 = E at EN hpa e0
              clear hlt hp2
              have z1 : (E == 0) = false := by simpa using e0
              have z2 : (E != 0) = true := by simp [bne, z1]
              have HP : Hid (parse s.data.toList = (Edt.none, E)) := hpa.out.trans (if_neg e0)
              clear e0 hpa
              go_wp2_with (first
                | (go_at_call 42; (with_reducible refine (EN.out _ P.out.rd).mono ?_); rintro e w6 ⟨rfl, k, rfl⟩; have PK := Lib.hid (PD.out k); obtain ⟨⟨c0, c1, c2, c3, c4⟩, c5⟩ := pe_cells PK.out; obtain ⟨⟨k0, k1, k2, k3, k4⟩, k5⟩ := pe_box PK.out))
              exact qret_edit rfl rfl rfl rfl (row_sets5 PK.out.box _ _ _ _ _) ⟨none, 0, none, 0, by rw [HP.out]; rfl, by rw [HP.out]; exact lies_none _, below_sets PK.out.below _ _ _ _ _⟩
            · generalize dEnd s.size p.1 p.2 = E at EN hpa
              clear hlt
              by_cases e0 : E = 0
              · subst e0
                by_cases z0 : Z = 0
                · subst z0
                  have HP : Hid (parse s.data.toList = (qEd s.data.toList, 0)) := hpa.out.trans ((if_pos rfl).trans (if_pos rfl))
                  clear hpa
                  go_wp2_with (first
                    | (go_at_call 42; (with_reducible refine (EN.out _ P.out.rd).mono ?_); rintro e w6 ⟨rfl, k, rfl⟩; have PK := Lib.hid (PD.out k); obtain ⟨⟨c0, c1, c2, c3, c4⟩, c5⟩ := pe_cells PK.out; obtain ⟨⟨k0, k1, k2, k3, k4⟩, k5⟩ := pe_box PK.out)
                    | (go_at_call 19; (with_reducible refine (CK.out _).mono ?_); rintro e w7 ⟨rfl, b7⟩; have P7 := Lib.hid (pe_below PK.out b7); obtain ⟨⟨m0, m1, m2, m3, m4⟩, m5⟩ := pe_cells P7.out; obtain ⟨⟨h0, h1, h2, h3, h4⟩, h5⟩ := pe_box P7.out; clear b7))
                  refine qret_edit rfl rfl rfl rfl (row_sets5 P7.out.box _ _ _ _ _) ⟨A, c, G, d, by rw [HP.out, hval.out], ?_, below_sets P7.out.below _ _ _ _ _⟩
                  rw [HP.out]
                  have hl := pe_lies P7.out (.int .u64 (nx s.data.toList p0).1) (.int .u64 (nx s.data.toList (p1 s.data.toList)).1) (.int .u64 (nx s.data.toList (p2 s.data.toList)).1) (.slice A (kA s.data.toList).1.length c) (.slice G lg.length d)
                  obtain ⟨A', c', e1, r1⟩ := arow_of_owns hl.1
                  obtain ⟨G', d', e2, r2⟩ := grow_of_owns hl.2
                  injection e1 with e1 _ _
                  injection e2 with e2 _ _
                  subst e1 e2
                  have hok := qEd_ok (L := s.data.toList) (by exact hs)
                  rw [HED.out] at hok ⊢
                  exact ⟨r1, r2, hok, hla.out, Nat.le_trans hlg.out (by decide)⟩
                · have z1 : (Z == 0) = false := by simpa using z0
                  have z2 : (Z != 0) = true := by simp [bne, z1]
                  have HP : Hid (parse s.data.toList = (Edt.none, Z)) := hpa.out.trans ((if_pos rfl).trans (if_neg z0))
                  clear z0 hpa
                  go_wp2_with (first
                    | (go_at_call 42; (with_reducible refine (EN.out _ P.out.rd).mono ?_); rintro e w6 ⟨rfl, k, rfl⟩; have PK := Lib.hid (PD.out k); obtain ⟨⟨c0, c1, c2, c3, c4⟩, c5⟩ := pe_cells PK.out; obtain ⟨⟨k0, k1, k2, k3, k4⟩, k5⟩ := pe_box PK.out)
                    | (go_at_call 19; (with_reducible refine (CK.out _).mono ?_); rintro e w7 ⟨rfl, b7⟩; have P7 := Lib.hid (pe_below PK.out b7); obtain ⟨⟨m0, m1, m2, m3, m4⟩, m5⟩ := pe_cells P7.out; obtain ⟨⟨h0, h1, h2, h3, h4⟩, h5⟩ := pe_box P7.out; clear b7))
                  exact qret_edit rfl rfl rfl rfl (row_sets5 P7.out.box _ _ _ _ _) ⟨none, 0, none, 0, by rw [HP.out]; rfl, by rw [HP.out]; exact lies_none _, below_sets P7.out.below _ _ _ _ _⟩
              · have z1 : (E == 0) = false := by simpa using e0
                have z2 : (E != 0) = true := by simp [bne, z1]
                have HP : Hid (parse s.data.toList = (Edt.none, E)) := hpa.out.trans (if_neg e0)
                clear e0 hpa
                go_wp2_with (first
                  | (go_at_call 42; (with_reducible refine (EN.out _ P.out.rd).mono ?_); rintro e w6 ⟨rfl, k, rfl⟩; have PK := Lib.hid (PD.out k); obtain ⟨⟨c0, c1, c2, c3, c4⟩, c5⟩ := pe_cells PK.out; obtain ⟨⟨k0, k1, k2, k3, k4⟩, k5⟩ := pe_box PK.out))
                exact qret_edit rfl rfl rfl rfl (row_sets5 PK.out.box _ _ _ _ _) ⟨none, 0, none, 0, by rw [HP.out]; rfl, by rw [HP.out]; exact lies_none _, below_sets PK.out.below _ _ _ _ _⟩
end Go.Proofs.YtomokbcamfmfcaaDoor.Ed.Q
