/-
  Where a walk is behind all trades (walk.Of), how many trades turned it (Corners): walked. Conditions: as each theorem states.
-/
import Derived.Test.YtligdamibjclnaaWkB
namespace Go.Proofs.Ytligdamibjclnaa.Wk
open Go.RowKit Go.Shelf
open Go.Proofs.Ytligdamibjclnaa
open Go.Proofs.Ytligdamibjclnaa.Rf
open Se Fl
attribute [local go_sem] Oper.semAt_some run_store_float run_store_complex

theorem paths_any (A : Option Addr) (n c : Nat) (w : World) :
    Calls Try.prog 18 #[.slice A n c] w fun e w' => e = .returned (.func (.func 28) #[] #[.pointer (some ⟨w.heap.size, 0, none⟩)]) ∧ w' = w.alloc (.cells #[.slice A n c] 22) := by
  go_enter Try.func18, Try.ntmps18
  go_wp2
  go_ret
  exact ⟨rfl, rfl⟩
def lastW (pre : List Pw) : Pw := pre.getLastD begW
theorem lastW_snoc (pre : List Pw) (x : Pw) : lastW (pre ++ [x]) = x := by simp [lastW]
def ofW (l : List Trd) : Pw := lastW (pwalk begW 0 l)
def zcs : Array Value := #[.complex .f64 0 0, .complex .f64 0 0, .int .i64 0, .complex .f64 0 0, .complex .f64 0 0]
theorem free_block {B b : Nat} {A C : World} {row : Option Nat} (hg : A.grownBy C row) (hr : ∀ r, row = some r → B ≤ r) (hb : b < B) {o : Obj} (h : A.heap[b]? = some o) : C.heap[b]? = some o :=
  (hg.block b (Array.getElem?_eq_some_iff.1 h).1 (fun e => by have := hr b e.symm; omega)).trans h
theorem free_below {B : Nat} {w A C : World} {row : Option Nat} (hg : A.grownBy C row) (hr : ∀ r, row = some r → B ≤ r) (hB : w.heap.size ≤ B) (h : Below w.heap.size w A) : Below w.heap.size w C :=
  h.trans ⟨hg.os, hg.tape, hg.output, hg.size, fun k hk => hg.block k (Nat.lt_of_lt_of_le hk h.size) (fun e => by have := hr k e.symm; omega)⟩
theorem set5_below {w W : World} {b : Nat} {q : Pw} (h : Below w.heap.size w W) (hb : w.heap.size ≤ b) : Below w.heap.size w (set5 W b q) :=
  ((((h.setCell (p := ⟨b, 0, none⟩) hb _).setCell (p := ⟨b, 1, none⟩) hb _).setCell (p := ⟨b, 2, none⟩) hb _).setCell (p := ⟨b, 3, none⟩) hb _).setCell (p := ⟨b, 4, none⟩) hb _
theorem set5_size (W : World) (b : Nat) (q : Pw) : (set5 W b q).heap.size = W.heap.size := by simp [set5]
theorem set5_new {W : World} {t : TypeId} (q : Pw) : (set5 (W.alloc (.cells zcs t)) W.heap.size q).heap[W.heap.size]? = some (.cells (pcs q) t (0, 0)) := by
  have h0 := heap_alloc_last W (.cells zcs t (0, 0))
  have h1 := heap_set (i := 0) h0 (.complex .f64 q.pos.re q.pos.im)
  have h2 := heap_set (i := 1) h1 (.complex .f64 q.hd.re q.hd.im)
  have h3 := heap_set (i := 2) h2 (.int .i64 q.st)
  have h4 := heap_set (i := 3) h3 (.complex .f64 q.lo.re q.lo.im)
  exact heap_set (i := 4) h4 (.complex .f64 q.hi.re q.hi.im)
theorem set5_new_below {W : World} {t : TypeId} (q : Pw) : Below W.heap.size W (set5 (W.alloc (.cells zcs t)) W.heap.size q) :=
  set5_below ((Below.refl _ W).alloc (Nat.le_refl _) _) (Nat.le_refl _)
theorem keepsFrom_below {B : Nat} {X Y : World} (h : Below X.heap.size X Y) : KeepsFrom B X Y := KeepsFrom.of_grownBy (grown_b h none) (fun j e => by cases e)
theorem set5_keepsA {S : List Nat} {B b : Nat} {W : World} {q : Pw} (hS : b ∈ S) : KeepsA S B W (set5 W b q) :=
  fun k c t fr h1 h2 => ((set5_grown W b q).block k (Array.getElem?_eq_some_iff.1 h2).1 (fun e => by injection e with e; subst e; exact h1 hS)).trans h2
theorem set5_keepsFrom {B b : Nat} {W : World} {q : Pw} (hB : b < B) : KeepsFrom B W (set5 W b q) := KeepsFrom.of_grownBy (set5_grown W b q) (fun j e => by cases e; exact hB)
theorem row5 {w : World} {b : Nat} {q : Pw} {t : TypeId} (h : w.heap[b]? = some (.cells (pcs q) t (0, 0))) :
    (w.cell? ⟨b, 0, none⟩ = some (.complex .f64 q.pos.re q.pos.im) ∧ w.cell? ⟨b, 1, none⟩ = some (.complex .f64 q.hd.re q.hd.im) ∧ w.cell? ⟨b, 2, none⟩ = some (.int .i64 q.st) ∧ w.cell? ⟨b, 3, none⟩ = some (.complex .f64 q.lo.re q.lo.im) ∧ w.cell? ⟨b, 4, none⟩ = some (.complex .f64 q.hi.re q.hi.im)) ∧
    (w.frozen? ⟨b, 0, none⟩ = false ∧ w.frozen? ⟨b, 1, none⟩ = false ∧ w.frozen? ⟨b, 2, none⟩ = false ∧ w.frozen? ⟨b, 3, none⟩ = false ∧ w.frozen? ⟨b, 4, none⟩ = false) :=
  ⟨⟨(cells_in h 0 rfl).1, (cells_in h 1 rfl).1, (cells_in h 2 rfl).1, (cells_in h 3 rfl).1, (cells_in h 4 rfl).1⟩,
   (cells_in h 0 rfl).2, (cells_in h 1 rfl).2, (cells_in h 2 rfl).2, (cells_in h 3 rfl).2, (cells_in h 4 rfl).2⟩
def zW : Pw := ⟨c0, c0, 0, c0, c0⟩
theorem results_box (f : Func) (hf : f.results = #[.cell 2 26]) {w : World} {b : Nat} {q : Pw} {t : TypeId} (h : w.heap[b]? = some (.cells (pcs q) t (0, 0))) (tmps : Array Value) (ht : (tmps[2]?).getD undef = .pointer (some ⟨b, 0, none⟩)) :
    (results f tmps).run Try.prog w = .ok (pv q) w := by
  obtain ⟨⟨d0, d1, d2, d3, d4⟩, -⟩ := row5 h
  simp [results, hf, go_sem, ht, d0, d1, d2, d3, d4, pv]
/-- the loop variable's box -/
def Ax (B : Nat) (f : Nat → Pw → Act) (x : Pw) (a' : Act) (W : World) : Prop := ∃ b, B ≤ b ∧ W.heap[b]? = some (.cells (pcs x) 26 (0, 0)) ∧ a' = f b x
theorem ax_own (B : Nat) (f : Nat → Pw → Act) (x : Pw) (a' : Act) (B' : Nat) : OwnFrom (β := Unit) B' (fun _ W => Ax B f x a' W) := fun s A C row hs hg hr => by
  obtain ⟨b, h1, h2, h3⟩ := hs
  refine ⟨b, h1, (hg.block b (Array.getElem?_eq_some_iff.1 h2).1 (fun e => ?_)).trans h2, h3⟩
  obtain ⟨_, o, ho, hw⟩ := hr b e.symm
  rw [h2] at ho; cases ho; cases hw
set_option maxRecDepth 100000 in
set_option maxHeartbeats 2000000 in
theorem of_in (n : Nat) (hn : 3 ≤ n) (A : Option Addr) (c : Nat) (l : List Trd) (hl : l.length ≤ 1000) (w : World) (RA : TRow w A l) :
    CallsIn Fence.wide n Try.prog 7 #[.slice A l.length c] w fun e w' => e = .returned (pv (ofW l)) ∧ Below w.heap.size w w' := by
  have h1 : 1 ≤ n := by omega
  refine callsIn_of_wp_marks Try.func7 rfl trivial ?_ rfl
  simp only [Try.ntmps7, List.size_toArray, List.length_cons, List.length_nil, Nat.reduceAdd, Nat.reduceSub, Array.replicate_succ, Array.replicate_zero, List.push_toArray, List.append_toArray, List.nil_append, List.cons_append]
  gi_wp2_with (first
    | (refine ⟨trivial, ?_⟩; gi_at_call 17; refine (callsIn_wide.2 (begin_x _)).mono ?_; rintro e w1 ⟨rfl, hb1⟩)
    | (refine ⟨trivial, ?_⟩; gi_at_call 18; refine (callsIn_wide.2 (paths_any A l.length c _)).mono ?_; rintro e w2 ⟨rfl, rfl⟩))
  have hz1 := hb1.size
  have hz0 : w.heap.size < w1.heap.size := by simp at hz1; omega
  have hzr := (hb1.block w.heap.size (by simp)).trans (heap_alloc_last w (.cells zcs 26 (0, 0)))
  have hbw : Below w.heap.size w w1 := ((Below.refl _ w).alloc (Nat.le_refl _) _).trans (hb1.mono (by simp))
  refine range_v rfl h1 (gf := 28) (lb := #[.pointer (some ⟨w1.heap.size + 1, 0, none⟩)]) rfl trivial (enters_of Try.func28 (by kernel_rfl) rfl)
    (w0 := (w1.alloc (.cells (pcs begW) 26)).alloc (.cells #[.slice A l.length c] 22))
    (paths_seq (n - 1) (by omega) (S := [w1.heap.size]) hl (by have h := heap_alloc_last (w1.alloc (.cells (pcs begW) 26)) (.cells #[.slice A l.length c] 22); rwa [World.size_alloc] at h) ((RA.below hbw).below (((Below.refl _ w1).alloc (Nat.le_refl _) _).alloc (by simp) _))
      (fun h0 a ha => by subst ha; obtain ⟨a', e, h2, _⟩ := RA h0; injection e with e; subst e; simp; omega) (by simp; omega)) KeepsA.t (fun W l o o' _ h2 h3 _ => keepsA_b W l o o' h2 h3) (Below.refl _ _) (fun _ => rfl)
    (fun pre W => W.heap[w1.heap.size]? = some (.cells (pcs (lastW pre)) 26 (0, 0)) ∧ W.heap[w.heap.size]? = some (.cells zcs 26 (0, 0)) ∧ Below w.heap.size w W ∧ w1.heap.size + 2 ≤ W.heap.size) (fun _ _ _ => False)
    (fun s A C row ⟨h1, h2, h3, h4⟩ hg hr => ⟨free_block hg hr (by simp; omega) h1, free_block hg hr (by simp; omega) h2, free_below hg hr (by simp; omega) h3, Nat.le_trans h4 hg.size⟩)
    (fun _ _ _ _ _ hs _ _ => hs)
    ⟨(Below.heap_alloc _ _ _ (by simp)).trans (heap_alloc_last w1 _), (Below.heap_alloc _ _ _ (by simp; omega)).trans ((Below.heap_alloc _ _ _ (by omega)).trans hzr), (hbw.alloc (by omega) _).alloc (by simp; omega) _, by simp⟩
    (Ax (w1.heap.size + 2) fun b x => { tmps := #[.slice A l.length c, undef, .pointer (some ⟨w.heap.size, 0, none⟩), .pointer (some ⟨w1.heap.size, 0, none⟩), .pointer (some ⟨b, 0, none⟩), pv begW, .slice A l.length c, .func (.func 28) #[] #[.pointer (some ⟨w1.heap.size + 1, 0, none⟩)], .agg #[.complex .f64 x.pos.re x.pos.im, .complex .f64 x.hd.re x.hd.im, .int .i64 x.st, .complex .f64 x.lo.re x.lo.im, .complex .f64 x.hi.re x.hi.im], undef, undef], defers := [] })
    (fun x a' => ax_own _ _ _ _ _) ?assign ?body ?done ?stop
  case assign =>
    rintro lp pre x W K ⟨i1, i2, i3, i4⟩ _ hK
    dsimp only [encW]
    gi_wp2
    have hbn : Below W.heap.size W (W.alloc (.cells (pcs x) 26)) := (Below.refl _ W).alloc (Nat.le_refl _) _
    exact hK _ (W.alloc (.cells (pcs x) 26)) ⟨(Below.heap_alloc _ _ _ (by omega)).trans i1, (Below.heap_alloc _ _ _ (by omega)).trans i2, i3.alloc i3.size _, by simp; omega⟩
      (keepsFrom_below hbn) (KeepsA.of_below hbn) ⟨_, i4, heap_alloc_last W _, rfl⟩
  case body =>
    rintro lp pre x a' W ⟨i1, i2, i3, i4⟩ _ ⟨b, hb, hx, rfl⟩
    obtain ⟨⟨d0, d1, d2, d3, d4⟩, -⟩ := row5 hx
    obtain ⟨⟨x0, x1, x2, x3, x4⟩, f0, f1, f2, f3, f4⟩ := row5 i1
    gi_wp2
    have e := set5_row (q := x) i1
    refine ⟨set5_keepsFrom (by simp; omega), set5_keepsA (by simp), ?_, ?_, ?_, ?_⟩
    · rw [lastW_snoc]; exact e
    · exact ((set5_grown W w1.heap.size x).block _ (by omega) (fun e => by injection e with e; omega)).trans i2
    · exact set5_below i3 (by omega)
    · exact Nat.le_trans i4 (Nat.le_of_eq (set5_size W w1.heap.size x).symm)
  case done =>
    rintro D W hD ⟨i1, i2, i3, i4⟩ hK
    obtain ⟨⟨d0, d1, d2, d3, d4⟩, -⟩ := row5 i1
    obtain ⟨⟨x0, x1, x2, x3, x4⟩, f0, f1, f2, f3, f4⟩ := row5 (q := zW) i2
    gi_wp2
    have hD' : w.heap.size < D := by simp at hD; omega
    have hK' : (set5 W w.heap.size (lastW (pwalk begW 0 l))).heap[D]? = some (.deferred (some [])) := ((set5_grown W w.heap.size _).block D (Array.getElem?_eq_some_iff.1 hK).1 (fun e => by injection e with e; omega)).trans hK
    have hr := set5_row (q := lastW (pwalk begW 0 l)) (p := zW) i2
    refine ⟨by simp, .inl ⟨_, _, rfl, run_takeDeferred hK', ?_⟩⟩
    refine ⟨_, results_box _ rfl (q := lastW (pwalk begW 0 l)) ((World.putObj_heap_other (by omega)).trans hr) _ rfl, rfl, ?_⟩
    exact (set5_below i3 (by omega)).trans (belowK_b (w := w) (Nat.le_refl _) _ D _ _ (by omega) hK' rfl rfl)
  case stop =>
    rintro D c' pre W _ _ h _
    exact h.elim
end Go.Proofs.Ytligdamibjclnaa.Wk
