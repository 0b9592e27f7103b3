/-
  How many trades turned a walk (Corners): walked. Conditions: as each theorem states.
-/
import Derived.Test.YtligdamibjclnaaWkC
namespace Go.Proofs.Ytligdamibjclnaa.Wk
open Go.RowKit Go.Shelf
open Go.Proofs.Ytligdamibjclnaa
open Go.Proofs.Ytligdamibjclnaa.Rf
open Se Fl
attribute [local go_sem] Oper.semAt_some run_store_float run_store_complex

theorem of_any (A : Option Addr) (c : Nat) (l : List Trd) (hl : l.length ≤ 1000) (w : World) (RA : TRow w A l) :
    Calls Try.prog 7 #[.slice A l.length c] w fun e w' => e = .returned (pv (ofW l)) ∧ Below w.heap.size w w' :=
  callsIn_wide.1 (of_in 3 (by omega) A c l hl w RA)

def ceqW (a b : Cw) : Bool := (FloatKind.f64.format.order a.re b.re == some .eq) && (FloatKind.f64.format.order a.im b.im == some .eq)
theorem ceqW_of {a b : Cw} {x y v u : Int} (ha : CF a x y) (hb : CF b v u) : ceqW a b = (decide (x = v) && decide (y = u)) := by
  unfold ceqW
  rw [show (FloatKind.f64.format.order a.re b.re == some .eq) = decide (x = v) from fl_eq ha.1 hb.1, show (FloatKind.f64.format.order a.im b.im == some .eq) = decide (y = u) from fl_eq ha.2 hb.2]
/-- turns counted -/
def crnStep (s : Int × Cw) (p : Pw) : Int × Cw := (if ceqW p.hd s.2 then s.1 else s.1 + 1, p.hd)
def crn (pre : List Pw) : Int × Cw := pre.foldl crnStep (0, begW.hd)
theorem crn_snoc (pre : List Pw) (x : Pw) : crn (pre ++ [x]) = crnStep (crn pre) x := by simp [crn, List.foldl_append]
theorem crn_bd (pre : List Pw) : ∀ s : Int × Cw, 0 ≤ s.1 → 0 ≤ (pre.foldl crnStep s).1 ∧ (pre.foldl crnStep s).1 ≤ s.1 + pre.length := by
  induction pre with
  | nil => intro s h; simp; exact h
  | cons x pre ih =>
    intro s h
    have e : 0 ≤ (crnStep s x).1 ∧ (crnStep s x).1 ≤ s.1 + 1 := by unfold crnStep; split <;> simp <;> omega
    have := ih (crnStep s x) e.1
    simp only [List.foldl_cons, List.length_cons]
    omega
theorem cell1 {w : World} {b : Nat} {v : Value} {t : TypeId} (h : w.heap[b]? = some (.cells #[v] t (0, 0))) : w.cell? ⟨b, 0, none⟩ = some v ∧ w.frozen? ⟨b, 0, none⟩ = false := cells_in h 0 rfl
theorem set1_row {w : World} {b : Nat} {v : Value} {t : TypeId} (h : w.heap[b]? = some (.cells #[v] t (0, 0))) (v' : Value) : (w.setCell ⟨b, 0, none⟩ v').heap[b]? = some (.cells #[v'] t (0, 0)) := heap_set (i := 0) h v'
theorem keepsA_set {S : List Nat} {B b : Nat} {W W' : World} (h : KeepsA S B W W') (i : Nat) (v : Value) (hS : b ∈ S) : KeepsA S B W (W'.setCell ⟨b, i, none⟩ v) :=
  KeepsA.t h fun k _ _ _ h1 h2 => (Below.heap_setCell W' ⟨b, i, none⟩ v k (fun e => h1 (by rw [e]; exact hS))).trans h2
theorem keepsA_refl (S : List Nat) (B : Nat) (W : World) : KeepsA S B W W := fun _ _ _ _ _ h => h
theorem keepsFrom_refl (B : Nat) (W : World) : KeepsFrom B W W := keepsFrom_below (Below.refl _ W)
theorem keepsFrom_set {B b : Nat} {W W' : World} (h : KeepsFrom B W W') (i : Nat) (v : Value) (hB : b < B) : KeepsFrom B W (W'.setCell ⟨b, i, none⟩ v) :=
  h.trans (KeepsFrom.of_grownBy (grown_set W' b i v) (fun j e => by cases e; exact hB))
theorem set_other {w : World} {b k i : Nat} {o : Obj} (h : w.heap[k]? = some o) (hne : k ≠ b) (v : Value) : (w.setCell ⟨b, i, none⟩ v).heap[k]? = some o :=
  (Below.heap_setCell w ⟨b, i, none⟩ v k (fun e => hne e)).trans h
set_option maxRecDepth 100000 in
set_option maxHeartbeats 2000000 in
theorem corners_in (n : Nat) (hn : 3 ≤ n) (A : Option Addr) (c : Nat) (l : List Trd) (hl : l.length ≤ 1000) (w : World) (RA : TRow w A l) :
    CallsIn Fence.wide n Try.prog 12 #[.slice A l.length c] w fun e w' => e = .returned (.int .i64 (crn (pwalk begW 0 l)).1) ∧ Below w.heap.size w w' := by
  have h1 : 1 ≤ n := by omega
  refine callsIn_of_wp_marks Try.func12 rfl trivial ?_ rfl
  simp only [Try.ntmps12, List.size_toArray, List.length_cons, List.length_nil, Nat.reduceAdd, Nat.reduceSub, Array.replicate_succ, Array.replicate_zero, List.push_toArray, List.append_toArray, List.nil_append, List.cons_append]
  have hfld : ∀ W, (Instr.field 26 (.agg #[.complex .f64 0 0, .complex .f64 4607182418800017408 0, .int .i64 0, .complex .f64 0 0, .complex .f64 0 0]) 1).run Try.prog W = .ok (.complex .f64 4607182418800017408 0) W := fun W => by kernel_rfl
  gi_wp2_with (first
    | (refine ⟨trivial, ?_⟩; gi_at_call 17; refine (callsIn_wide.2 (begin_x _)).mono ?_; rintro e w1 ⟨rfl, hb1⟩)
    | (refine ⟨trivial, ?_⟩; gi_at_call 18; refine (callsIn_wide.2 (paths_any A l.length c _)).mono ?_; rintro e w2 ⟨rfl, rfl⟩))
  have hz1 := hb1.size
  have hz0 : w.heap.size < w1.heap.size := by simp at hz1; omega
  have hzr := (hb1.block w.heap.size (by simp)).trans (heap_alloc_last w (.cells #[.int .i64 0] 3 (0, 0)))
  have hbw : Below w.heap.size w w1 := ((Below.refl _ w).alloc (Nat.le_refl _) _).trans (hb1.mono (by simp))
  refine range_v rfl h1 (gf := 28) (lb := #[.pointer (some ⟨w1.heap.size + 1, 0, none⟩)]) rfl trivial (enters_of Try.func28 (by kernel_rfl) rfl)
    (w0 := (w1.alloc (.cells #[.complex .f64 begW.hd.re begW.hd.im] 24)).alloc (.cells #[.slice A l.length c] 22))
    (paths_seq (n - 1) (by omega) (S := [w.heap.size, w1.heap.size]) hl (by have h := heap_alloc_last (w1.alloc (.cells #[.complex .f64 begW.hd.re begW.hd.im] 24)) (.cells #[.slice A l.length c] 22); rwa [World.size_alloc] at h) ((RA.below hbw).below (((Below.refl _ w1).alloc (Nat.le_refl _) _).alloc (by simp) _))
      (fun h0 a ha => by subst ha; obtain ⟨a', e, h2, _⟩ := RA h0; injection e with e; subst e; simp; omega) (by simp; omega)) KeepsA.t (fun W l o o' _ h2 h3 _ => keepsA_b W l o o' h2 h3) (Below.refl _ _) (fun _ => rfl)
    (fun pre W => W.heap[w1.heap.size]? = some (.cells #[.complex .f64 (crn pre).2.re (crn pre).2.im] 24 (0, 0)) ∧ W.heap[w.heap.size]? = some (.cells #[.int .i64 (crn pre).1] 3 (0, 0)) ∧ Below w.heap.size w W ∧ w1.heap.size + 2 ≤ W.heap.size) (fun _ _ _ => False)
    (fun s A C row ⟨h1, h2, h3, h4⟩ hg hr => ⟨free_block hg hr (by simp; omega) h1, free_block hg hr (by simp; omega) h2, free_below hg hr (by simp; omega) h3, Nat.le_trans h4 hg.size⟩)
    (fun _ _ _ _ _ hs _ _ => hs)
    ⟨(Below.heap_alloc _ _ _ (by simp)).trans (heap_alloc_last w1 _), (Below.heap_alloc _ _ _ (by simp; omega)).trans ((Below.heap_alloc _ _ _ (by omega)).trans hzr), (hbw.alloc (by omega) _).alloc (by simp; omega) _, by simp⟩
    (Ax (w1.heap.size + 2) fun b x => { tmps := #[.slice A l.length c, undef, .int .i64 0, .pointer (some ⟨w.heap.size, 0, none⟩), .pointer (some ⟨w1.heap.size, 0, none⟩), .pointer (some ⟨b, 0, none⟩), pv begW, .complex .f64 begW.hd.re begW.hd.im, .slice A l.length c, .func (.func 28) #[] #[.pointer (some ⟨w1.heap.size + 1, 0, none⟩)], .agg #[.complex .f64 x.pos.re x.pos.im, .complex .f64 x.hd.re x.hd.im, .int .i64 x.st, .complex .f64 x.lo.re x.lo.im, .complex .f64 x.hi.re x.hi.im], undef, undef, undef, undef, undef, undef, undef, undef, undef], defers := [] })
    (fun x a' => ax_own _ _ _ _ _) ?assign ?body ?done ?stop
  case assign =>
    rintro lp pre x W K ⟨i1, i2, i3, i4⟩ _ hK
    dsimp only [encW]
    gi_wp2
    have hbn : Below W.heap.size W (W.alloc (.cells (pcs x) 26)) := (Below.refl _ W).alloc (Nat.le_refl _) _
    exact hK _ (W.alloc (.cells (pcs x) 26)) ⟨(Below.heap_alloc _ _ _ (by omega)).trans i1, (Below.heap_alloc _ _ _ (by omega)).trans i2, i3.alloc i3.size _, by simp; omega⟩
      (keepsFrom_below hbn) (KeepsA.of_below hbn) ⟨_, i4, heap_alloc_last W _, rfl⟩
  case body =>
    rintro lp pre x a' W ⟨i1, i2, i3, i4⟩ hpre ⟨b, hb, hx, rfl⟩
    have hle : pre.length < l.length := by have := hpre.length_le; rw [pwalk_len] at this; simp at this; omega
    have hbd := crn_bd pre (0, begW.hd) (by simp)
    simp only [show List.foldl crnStep (0, begW.hd) pre = crn pre from rfl] at hbd
    have hsn := crn_snoc pre x
    obtain ⟨k, h, hkh⟩ : ∃ k h, crn pre = (k, h) := ⟨_, _, rfl⟩
    rw [hkh] at i1 i2 hbd hsn
    simp only at i1 i2 hbd
    unfold crnStep at hsn
    simp only at hsn
    obtain ⟨⟨d0, d1, d2, d3, d4⟩, -⟩ := row5 hx
    obtain ⟨x0, f0⟩ := cell1 i1
    obtain ⟨y0, g0⟩ := cell1 i2
    have hk0 := hbd.1
    have hk1 : k < 1000 := by omega
    cases hq : ceqW x.hd h with
    | true =>
      have hq' := hq
      unfold ceqW at hq'
      rw [hq, if_pos rfl] at hsn
      gi_wp2
      refine ⟨keepsFrom_set (keepsFrom_refl _ _) _ _ (by simp; omega), keepsA_set (keepsA_refl _ _ _) _ _ (by simp), ?_, ?_, i3.setCell (p := ⟨w1.heap.size, 0, none⟩) (by simp; omega) _, by simp; omega⟩
      · rw [hsn]; exact set1_row i1 _
      · rw [hsn]; exact set_other i2 (by omega) _
    | false =>
      have hq' := hq
      unfold ceqW at hq'
      rw [hq, if_neg (by decide)] at hsn
      gi_wp2
      refine ⟨keepsFrom_set (keepsFrom_set (keepsFrom_refl _ _) _ _ (by simp; omega)) _ _ (by simp; omega), keepsA_set (keepsA_set (keepsA_refl _ _ _) _ _ (by simp)) _ _ (by simp), ?_, ?_, (i3.setCell (p := ⟨w.heap.size, 0, none⟩) (by simp) _).setCell (p := ⟨w1.heap.size, 0, none⟩) (by simp; omega) _, by simp; omega⟩
      · rw [hsn]; exact set1_row (set_other i1 (by omega) _) _
      · rw [hsn]; exact set_other (set1_row i2 _) (by omega) _
  case done =>
    rintro D W hD ⟨i1, i2, i3, i4⟩ hK
    obtain ⟨x0, f0⟩ := cell1 i2
    gi_wp2
    have hD' : w.heap.size < D := by simp at hD; omega
    refine ⟨by simp, .inl ⟨_, _, rfl, run_takeDeferred hK, ?_⟩⟩
    exact ⟨_, results_tmp rfl _ _ _, rfl, i3.trans (belowK_b (w := w) (Nat.le_refl _) _ D _ _ (by omega) hK rfl rfl)⟩
  case stop =>
    rintro D c' pre W _ _ h _
    exact h.elim
theorem corners_any (A : Option Addr) (c : Nat) (l : List Trd) (hl : l.length ≤ 1000) (w : World) (RA : TRow w A l) :
    Calls Try.prog 12 #[.slice A l.length c] w fun e w' => e = .returned (.int .i64 (crn (pwalk begW 0 l)).1) ∧ Below w.heap.size w w' :=
  callsIn_wide.1 (corners_in 3 (by omega) A c l hl w RA)

/-! ## the walk to its end -/
def endW : Pw → Int → List Trd → Pw
  | p, _, [] => p
  | p, la, t :: l => endW (thenW p la t.price t.size) t.price l
theorem ofW_end (l : List Trd) : ofW l = endW begW 0 l := by
  have h : ∀ (l : List Trd) (p : Pw) (la : Int), (pwalk p la l).getLastD p = endW p la l := by
    intro l
    induction l with
    | nil => intro p la; rfl
    | cons t l ih => intro p la; rw [pwalk, List.getLastD_cons, ih]; rfl
  exact h l begW 0
theorem endW_snoc (l : List Trd) (t : Trd) : ∀ (p : Pw) (la : Int), endW p la (l ++ [t]) = thenW (endW p la l) ((l.getLastD ⟨0, 0, la, 0⟩).price) t.price t.size := by
  induction l with
  | nil => intro p la; rfl
  | cons x l ih =>
    intro p la
    show endW _ _ (l ++ [t]) = _
    rw [ih]
    show thenW (endW _ x.price l) _ _ _ = thenW (endW _ x.price l) _ _ _
    congr 1
    rw [List.getLastD_cons]
    cases l with
    | nil => rfl
    | cons y l => rw [List.getLastD_cons, List.getLastD_cons]
theorem endW_pf : ∀ (l : List Trd) (p : Pw) (z : Pz) (k : Nat) (la : Int), PF p z k → k + l.length ≤ 1000 → ∃ z', PF (endW p la l) z' (k + l.length)
  | [], p, z, k, la, h, _ => ⟨z, h⟩
  | t :: l, p, z, k, la, h, hk => by
    simp only [List.length_cons] at hk
    obtain ⟨z', h'⟩ := endW_pf l _ _ (k + 1) t.price (then_pf h (by omega) la t.price t.size).1 (by omega)
    exact ⟨z', by simp only [List.length_cons]; rw [show k + (l.length + 1) = k + 1 + l.length by omega]; exact h'⟩

/-! ## two walks side by side -/
/-- the other walk's numbers: mirrored -/
def Mir (z y : Pz) : Prop := y.x = z.x ∧ y.y = -z.y ∧ y.h = (4 - z.h) % 4
theorem t_mir (h : Nat) (h4 : h < 4) : tr ((4 - h) % 4) 1 0 = tr h 1 0 ∧ ti ((4 - h) % 4) 1 0 = -ti h 1 0 := by
  match h, h4 with
  | 0, _ => decide
  | 1, _ => decide
  | 2, _ => decide
  | 3, _ => decide
theorem mir_head {h : Nat} (h4 : h < 4) (first : Bool) (la pr : Int) : headTo first ((4 - h) % 4) (-la) (-pr) = (4 - headTo first h la pr) % 4 := by
  unfold headTo
  cases first with
  | true => rfl
  | false =>
    simp only [Bool.false_eq_true, if_false]
    by_cases h1 : la < pr
    · rw [if_neg (by omega), if_pos (by omega), if_pos h1]; omega
    · by_cases h2 : pr < la
      · rw [if_pos (by omega), if_neg h1, if_pos h2]; omega
      · rw [if_neg (by omega), if_neg (by omega), if_neg h1, if_neg h2]
theorem mir_step {z y : Pz} (h4 : z.h < 4) (h : Mir z y) (first : Bool) (la pr s : Int) : Mir (stepZ z first la pr s) (stepZ y first (-la) (-pr) s) := by
  obtain ⟨a, b, d⟩ := h
  obtain ⟨e1, e2⟩ := t_mir _ (headTo_lt first h4 la pr)
  have e0 := mir_head h4 first la pr
  refine ⟨?_, ?_, ?_⟩
  · simp only [stepZ, a, d, e0, e1]
  · simp only [stepZ, b, d, e0, e2, Int.neg_mul]; omega
  · simp only [stepZ, d, e0]
theorem head_dec : ∀ g, g < 4 → ∀ h, h < 4 → (decide (tr g 1 0 = tr h 1 0) && decide (ti g 1 0 = ti h 1 0)) = decide (g = h) := by decide
/-- headings are one, if their numbers are one -/
theorem head_eq {a b : Cw} {g h : Nat} (hg : g < 4) (hh : h < 4) (ha : CF a (tr g 1 0) (ti g 1 0)) (hb : CF b (tr h 1 0) (ti h 1 0)) : ceqW a b = decide (g = h) := by
  rw [ceqW_of ha hb]
  exact head_dec g hg h hh
/-- the trades of the other walk -/
def mirT (t : Trd) : Trd := ⟨0, 0, -t.price, t.size⟩
def stillT (t : Trd) : Trd := ⟨0, 0, t.price, min t.size 0⟩
theorem mir_all : ∀ (l : List Trd) (p q : Pw) (z y : Pz) (k : Nat) (la n : Int), PF p z k → PF q y k → Mir z y → k + l.length ≤ 1000 →
    ∃ z' y', PF (endW p la l) z' (k + l.length) ∧ PF (endW q (-la) (l.map mirT)) y' (k + l.length) ∧ Mir z' y' ∧
      ((pwalk p la l).foldl crnStep (n, p.hd)).1 = ((pwalk q (-la) (l.map mirT)).foldl crnStep (n, q.hd)).1
  | [], p, q, z, y, k, la, n, hp, hq, hm, _ => ⟨z, y, hp, hq, hm, rfl⟩
  | t :: l, p, q, z, y, k, la, n, hp, hq, hm, hk => by
    simp only [List.length_cons] at hk
    have hp' := (then_pf hp (by omega) la t.price t.size).1
    have hq' := (then_pf hq (by omega) (-la) (-t.price) t.size).1
    have hm' := mir_step hp.h4 hm (k == 0) la t.price t.size
    have e : ceqW (thenW p la t.price t.size).hd p.hd = ceqW (thenW q (-la) (-t.price) t.size).hd q.hd := by
      rw [head_eq hp'.h4 hp.h4 hp'.hd hp.hd, head_eq hq'.h4 hq.h4 hq'.hd hq.hd, hm'.2.2, hm.2.2]
      have a := hp'.h4
      have b := hp.h4
      congr 1
      apply propext
      omega
    obtain ⟨z', y', h1, h2, h3, h4⟩ := mir_all l _ _ _ _ (k + 1) t.price (if ceqW (thenW p la t.price t.size).hd p.hd then n else n + 1) hp' hq' hm' (by omega)
    refine ⟨z', y', ?_, ?_, h3, ?_⟩
    · simp only [List.length_cons]; rw [show k + (l.length + 1) = k + 1 + l.length by omega]; exact h1
    · simp only [List.length_cons]; rw [show k + (l.length + 1) = k + 1 + l.length by omega]; exact h2
    · simp only [pwalk, List.map_cons, List.foldl_cons, crnStep, mirT] at h4 ⊢
      rw [← e]; exact h4
/-- the other walk's numbers: it stands -/
def Stl (z y : Pz) : Prop := y.x = 0 ∧ y.y = 0 ∧ y.h = z.h
theorem stl_all : ∀ (l : List Trd) (p q : Pw) (z y : Pz) (k : Nat) (la : Int), PF p z k → PF q y k → Stl z y → k + l.length ≤ 1000 →
    ∃ z' y', PF (endW p la l) z' (k + l.length) ∧ PF (endW q la (l.map stillT)) y' (k + l.length) ∧ Stl z' y'
  | [], p, q, z, y, k, la, hp, hq, hm, _ => ⟨z, y, hp, hq, hm⟩
  | t :: l, p, q, z, y, k, la, hp, hq, hm, hk => by
    simp only [List.length_cons] at hk
    have hp' := (then_pf hp (by omega) la t.price t.size).1
    have hq' := (then_pf hq (by omega) la t.price (min t.size 0)).1
    have hc : clamp (min t.size 0) = 0 := by unfold clamp; omega
    have hm' : Stl (stepZ z (k == 0) la t.price t.size) (stepZ y (k == 0) la t.price (min t.size 0)) := by
      obtain ⟨a, b, d⟩ := hm
      exact ⟨by simp [stepZ, a, hc], by simp [stepZ, b, hc], by simp [stepZ, d]⟩
    obtain ⟨z', y', h1, h2, h3⟩ := stl_all l _ _ _ _ (k + 1) t.price hp' hq' hm' (by omega)
    refine ⟨z', y', ?_, ?_, h3⟩
    · simp only [List.length_cons]; rw [show k + (l.length + 1) = k + 1 + l.length by omega]; exact h1
    · simp only [List.length_cons]; rw [show k + (l.length + 1) = k + 1 + l.length by omega]; exact h2
end Go.Proofs.Ytligdamibjclnaa.Wk
