/-
  What the law WalkGoes asks of a walk's numbers; steps of its drawn region. Conditions: as each theorem states.
-/
import Derived.Test.YtligdamibjclnaaWkK
import Derived.Test.YtligdamibjclnaaWkS
namespace Go.Proofs.Ytligdamibjclnaa.Wk
open Go.RowKit Go.Shelf
open Go.Proofs.Ytligdamibjclnaa
open Se Fl
attribute [local go_sem] run_store_float run_store_complex

theorem zwalk_bd : ∀ (l : List Trd) (p : Pw) (z : Pz) (k : Nat) (la : Int), PF p z k → k + l.length ≤ 1000 → ∀ q ∈ zwalk z (k == 0) la l, (-1000000 ≤ q.x ∧ q.x ≤ 1000000) ∧ (-1000000 ≤ q.y ∧ q.y ≤ 1000000)
  | [], _, _, _, _, _, _ => fun q h => by simp [zwalk] at h
  | t :: l, p, z, k, la, h, hk => fun q hq => by
    simp only [List.length_cons] at hk
    have h' := (then_pf h (by omega) la t.price t.size).1
    simp only [zwalk, List.mem_cons] at hq
    rcases hq with rfl | hq
    · have a := h'.bx
      have b := h'.by_
      omega
    · have e : (k + 1 == 0) = false := by simp
      have ih := zwalk_bd l _ _ (k + 1) t.price h' (by omega)
      rw [e] at ih
      exact ih q hq
/-- what words and numbers of a whole walk have to do with each other -/
structure Al (l : List Trd) (q : Pw) (z : Pz) (tz : Int) : Prop where
  pf : PF q z l.length
  bz : Bz z l.length
  turns : (crn (pwalk begW 0 l)).1 = tz
  ex : ends ((zwalk begZ true 0 l).map (·.x)) = (z.lx, z.hx)
  ey : ends ((zwalk begZ true 0 l).map (·.y)) = (z.ly, z.hy)
  bx : ∀ x ∈ (zwalk begZ true 0 l).map (·.x), -1000000 ≤ x ∧ x ≤ 1000000
  by_ : ∀ x ∈ (zwalk begZ true 0 l).map (·.y), -1000000 ≤ x ∧ x ≤ 1000000
  lx : ((zwalk begZ true 0 l).map (·.x)).length = l.length
  ly : ((zwalk begZ true 0 l).map (·.y)).length = l.length
  at_ : ∀ i (h1 : i < (pwalk begW 0 l).length) (h2 : i < ((zwalk begZ true 0 l).map (·.x)).length) (h3 : i < ((zwalk begZ true 0 l).map (·.y)).length), CF ((pwalk begW 0 l)[i]).pos ((zwalk begZ true 0 l).map (·.x))[i] ((zwalk begZ true 0 l).map (·.y))[i]
theorem al_of (l : List Trd) (hl : l.length ≤ 1000) : Al l (endW begW 0 l) (endZ begZ true 0 l) (turnsZ true 0 l) := by
  obtain ⟨⟨g1, g2⟩, g3⟩ := walk_at l begW begZ 0 0 pf_beg bz_beg (by omega)
  have g4 := turns_all l begW begZ 0 0 0 pf_beg (by omega)
  have g5 := zwalk_bd l begW begZ 0 0 pf_beg (by omega)
  have g6 := ends_walk l begZ true 0
  simp only [show ((0 : Nat) == 0) = true from rfl, Nat.zero_add] at g1 g2 g3 g4 g5
  refine ⟨g1, g2, by simp only [Int.zero_add] at g4; exact g4, g6.1, g6.2, fun x hx => ?_, fun x hx => ?_, by rw [List.length_map, zwalk_len], by rw [List.length_map, zwalk_len], fun i h1 h2 h3 => ?_⟩
  · obtain ⟨q, hq, rfl⟩ := List.mem_map.1 hx; exact (g5 q hq).1
  · obtain ⟨q, hq, rfl⟩ := List.mem_map.1 hx; exact (g5 q hq).2
  · rw [List.getElem_map, List.getElem_map]; exact g3 i h1 (by simpa using h2)
/-- two numbers' words held to be one place -/
theorem place_eq {c : Cw} {x y : Int} (h : CF c x y) (hx : x.natAbs ≤ 9007199254740992) (hy : y.natAbs ≤ 9007199254740992) :
    ((FloatKind.f64.format.order c.re (floatOfInt .f64 x) == some .eq) && (FloatKind.f64.format.order c.im (floatOfInt .f64 y) == some .eq)) = true := by
  have e := ceqW_of (b := ⟨floatOfInt .f64 x, floatOfInt .f64 y⟩) h (show CF ⟨floatOfInt .f64 x, floatOfInt .f64 y⟩ x y from ⟨fl_int hx, fl_int hy⟩)
  exact e.trans (by simp)
theorem fl_m1 : Fl 13830554455654793216 (-1) := by
  have h := fl_int (z := -1) (by decide)
  rwa [show floatOfInt .f64 (-1) = 13830554455654793216 by decide +kernel] at h
theorem four_head (h : Nat) (h4 : h < 4) : ∃ c : Cw, CF c (tr h 1 0) (ti h 1 0) ∧
    ∀ W, (Instr.index 37 (.agg #[.complex .f64 4607182418800017408 0, .complex .f64 0 4607182418800017408, .complex .f64 13830554455654793216 0, .complex .f64 0 13830554455654793216]) (.int .i64 (h : Int))).run Try.prog W = .ok (.complex .f64 c.re c.im) W := by
  match h, h4 with
  | 0, _ => exact ⟨⟨4607182418800017408, 0⟩, ⟨fl_one, fl_zero⟩, fun W => by kernel_rfl⟩
  | 1, _ => exact ⟨⟨0, 4607182418800017408⟩, ⟨fl_zero, fl_one⟩, fun W => by kernel_rfl⟩
  | 2, _ => exact ⟨⟨13830554455654793216, 0⟩, ⟨fl_m1, fl_zero⟩, fun W => by kernel_rfl⟩
  | 3, _ => exact ⟨⟨0, 13830554455654793216⟩, ⟨fl_zero, fl_m1⟩, fun W => by kernel_rfl⟩

theorem irow_ne {W : World} {A : Option Addr} {l : List Int} {b : Nat} (R : IRow W A l) (h : W.heap.size ≤ b) : ∀ a, A = some a → 0 < l.length → a.block ≠ b := fun a e h0 => by
  obtain ⟨a', e', hlt, _⟩ := R h0
  rw [e] at e'; injection e' with e'; subst e'; omega
theorem irow_far {W : World} {A : Option Addr} {l : List Int} {b : Nat} {ob : Obj} (h : ∀ a, A = some a → W.heap.size ≤ a.block) (hb : W.heap[b]? = some ob) : ∀ a, A = some a → 0 < l.length → a.block ≠ b := fun a e _ => by
  have := h a e
  have := (Array.getElem?_eq_some_iff.1 hb).1
  omega
theorem irow_put {W wn : World} {A : Option Addr} {l : List Int} {b : Nat} (R : IRow W A l) (hn : ∀ a, A = some a → 0 < l.length → a.block ≠ b) (hg : W.grownBy wn (some b)) : IRow wn A l := fun h0 => by
  obtain ⟨a, rfl, hlt, hc⟩ := R h0
  refine ⟨a, rfl, Nat.lt_of_lt_of_le hlt hg.size, fun i hi => ?_⟩
  rw [← hc i hi]
  have e := hg.block a.block hlt (fun e => by injection e with e; exact hn a rfl h0 e)
  unfold World.cell?
  rw [block_add, e]
/-! ## steps -/
/-- the document's walk in memory -/
def rcs (x y h k : Int) (vx vy : Value) : Array Value := #[.int .i64 x, .int .i64 y, .int .i64 h, .int .i64 k, vx, vy]
variable {ops : Array Oper} {o : Oper} {a : Act} {W : World} {K : Act → World → Prop} {Q : Exit → Act → World → Prop} {E : Prop}
theorem st_alloc6 (hg : o.guard = none) (hop : o.op = .alloc 30)
    (h : ∀ b wn, W.heap.size ≤ b → wn.heap[b]? = some (.cells zero6 30 (0, 0)) → Below W.heap.size W wn → K (a.put o.dst (.pointer (some ⟨b, 0, none⟩))) wn) :
    if Region.wanted o (yielded ops a.tmps) = true then Oper.wp Try.prog o a W K Q else E := by
  have hw : Region.wanted o (yielded ops a.tmps) = true := by simp [Region.wanted, hg]
  rw [if_pos hw]
  unfold Oper.wp
  simp [execOp, hop, go_sem]
  exact h _ _ (Nat.le_refl _) (heap_alloc_last W _) ((Below.refl _ W).alloc (Nat.le_refl _) _)
def set6 (w : World) (b : Nat) (x y h k : Int) (vx vy : Value) : World :=
  (((((w.setCell ⟨b, 0, none⟩ (.int .i64 x)).setCell ⟨b, 1, none⟩ (.int .i64 y)).setCell ⟨b, 2, none⟩ (.int .i64 h)).setCell ⟨b, 3, none⟩ (.int .i64 k)).setCell ⟨b, 4, none⟩ vx).setCell ⟨b, 5, none⟩ vy
theorem set6_row {w : World} {b : Nat} {t : TypeId} {x y h k : Int} {vx vy : Value} (h0 : w.heap[b]? = some (.cells zero6 t (0, 0))) : (set6 w b x y h k vx vy).heap[b]? = some (.cells (rcs x y h k vx vy) t (0, 0)) := by
  have h1 := heap_set (i := 0) h0 (.int .i64 x)
  have h2 := heap_set (i := 1) h1 (.int .i64 y)
  have h3 := heap_set (i := 2) h2 (.int .i64 h)
  have h4 := heap_set (i := 3) h3 (.int .i64 k)
  have h5 := heap_set (i := 4) h4 vx
  exact heap_set (i := 5) h5 vy
theorem set6_grown (w : World) (b : Nat) (x y h k : Int) (vx vy : Value) : w.grownBy (set6 w b x y h k vx vy) (some b) :=
  grown_t (grown_t (grown_t (grown_t (grown_t (grown_set w b 0 _) (grown_set _ b 1 _)) (grown_set _ b 2 _)) (grown_set _ b 3 _)) (grown_set _ b 4 _)) (grown_set _ b 5 _)
theorem st_store6 {p q : Nat} {b : Nat} {x y h k : Int} {A B : Option Addr} {n c n' c' : Nat} (hg : o.guard = none) (hop : o.op = .store 30 (.tmp p) (.tmp q)) (hp : (a.tmps[p]?).getD undef = .pointer (some ⟨b, 0, none⟩))
    (hq : (a.tmps[q]?).getD undef = .agg #[.int .i64 x, .int .i64 y, .int .i64 h, .int .i64 k, .slice A n c, .slice B n' c'])
    (hb : W.heap[b]? = some (.cells zero6 30 (0, 0))) (hd : o.dst = none)
    (hK : ∀ wn, wn.heap[b]? = some (.cells (rcs x y h k (.slice A n c) (.slice B n' c')) 30 (0, 0)) → W.grownBy wn (some b) → K a wn) :
    if Region.wanted o (yielded ops a.tmps) = true then Oper.wp Try.prog o a W K Q else E := by
  have hw : Region.wanted o (yielded ops a.tmps) = true := by simp [Region.wanted, hg]
  rw [if_pos hw]
  obtain ⟨⟨d0, d1, d2, d3, d4, d5⟩, f0, f1, f2, f3, f4, f5⟩ := cells6 (x0 := .int .i64 0) (x1 := .int .i64 0) (x2 := .int .i64 0) (x3 := .int .i64 0) (x4 := .slice none 0 0) (x5 := .slice none 0 0) hb
  unfold Oper.wp
  simp [execOp, hop, go_sem, hp, hq, hd, d0, d1, d2, d3, d4, d5, f0, f1, f2, f3, f4, f5]
  exact hK _ (set6_row hb) (set6_grown W b x y h k _ _)
end Go.Proofs.Ytligdamibjclnaa.Wk
