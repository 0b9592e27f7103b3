/-
  The document's answer (bourseref34.Of): walked. Conditions: as each theorem states.
-/
import Derived.Test.YtligdamibjclnaaWkI
import Derived.Deep.DeepCutAuto
import Derived.Deep.CutRange
import Derived.Deep.CutBlock
import Derived.Deep.QuietTactic
import Derived.BigQuiet
namespace Go.Proofs.Ytligdamibjclnaa.Wk
open Go.RowKit Go.Shelf
open Go.Proofs.Ytligdamibjclnaa
open Se Fl
attribute [local go_sem] run_store_float run_store_complex

def jC (l : List Int) : List Value := l.map fun n => Value.int .i64 n
theorem jC_snoc (l : List Int) (n : Int) : jC (l ++ [n]) = jC l ++ [.int .i64 n] := by simp [jC]
theorem irow_of {w : World} {B : Nat} {t : TypeId} {v : Value} {l : List Int} (h : w.ownsRow B t 1 v l.length (jC l)) :
    ∃ A c, v = .slice A l.length c ∧ IRow w A l := by
  have hc := fun g hg => h.cells (g := g) hg
  rcases h.2 with ⟨rfl, h0⟩ | ⟨g, cap, cur, rfl, hb, hg, _⟩
  · exact ⟨none, 0, by rw [h0], fun h1 => by omega⟩
  · refine ⟨some ⟨g, 0, none⟩, cap, rfl, fun _ => ⟨_, rfl, (Array.getElem?_eq_some_iff.1 hg).1, fun i hi => ?_⟩⟩
    exact hc g rfl i (.int .i64 l[i]) (by simp [jC, hi])
theorem irow_at {w : World} {B : Nat} {t : TypeId} {A : Option Addr} {n c : Nat} {l : List Int} (h : w.ownsRow B t 1 (.slice A n c) l.length (jC l)) : IRow w A l := by
  obtain ⟨A', c', e, R⟩ := irow_of h
  injection e with e1
  subst e1
  exact R
theorem IRow.below {W W2 : World} {A : Option Addr} {l : List Int} (h : IRow W A l) (hb : Below W.heap.size W W2) : IRow W2 A l := fun h0 => by
  obtain ⟨a, rfl, h1, h2⟩ := h h0
  exact ⟨a, rfl, by have := hb.size; omega, fun i hi => (hb.cell (p := a.add i) (by rw [block_add]; exact h1)).trans (h2 i hi)⟩
def zero6 : Array Value := #[.int .i64 0, .int .i64 0, .int .i64 0, .int .i64 0, .slice none 0 0, .slice none 0 0]
/-- the document's answer under way -/
structure OZ (w : World) (x y h k : Int) (vx vy : Value) (lx ly : List Int) (W : World) : Prop where
  res : W.heap[w.heap.size]? = some (.cells zero6 30 (0, 0))
  box : W.heap[w.heap.size + 1]? = some (.cells #[.int .i64 x, .int .i64 y, .int .i64 h, .int .i64 k, vx, vy] 30 (0, 0))
  owx : W.ownsRow (w.heap.size + 2) 3 1 vx lx.length (jC lx)
  owy : W.ownsRow (w.heap.size + 2) 3 1 vy ly.length (jC ly)
  apart : ∀ k, vx.ownBlock = some k → vy.ownBlock ≠ some k
  below : Below w.heap.size w W
section
variable {w W W2 : World} {x y h k : Int} {vx vy v2 : Value} {lx ly l2 : List Int}
theorem OZ.size (o : OZ w x y h k vx vy lx ly W) : w.heap.size + 1 < W.heap.size := (Array.getElem?_eq_some_iff.1 o.box).1
theorem OZ.on (o : OZ w x y h k vx vy lx ly W) (hb : Below W.heap.size W W2) : OZ w x y h k vx vy lx ly W2 :=
  ⟨hp_on' o.res hb, hp_on' o.box hb, own_on o.owx hb, own_on o.owy hb, o.apart, o.below.trans (hb.mono o.below.size)⟩
theorem OZ.drew (o : OZ w x y h k vx vy lx ly W) : OZ w x y h k vx vy lx ly W.drew := o.on ⟨rfl, rfl, rfl, Nat.le_refl _, fun _ _ => rfl⟩
theorem OZ.drewN (o : OZ w x y h k vx vy lx ly W) (n : Nat) : OZ w x y h k vx vy lx ly (W.drewN n) := o.on ⟨rfl, rfl, rfl, Nat.le_refl _, fun _ _ => rfl⟩
theorem OZ.alloc (o : OZ w x y h k vx vy lx ly W) (ob : Obj) : OZ w x y h k vx vy lx ly (W.alloc ob) := o.on ((Below.refl _ W).alloc (Nat.le_refl _) ob)
theorem own_set {B : Nat} {T : TypeId} {c : Nat} {v : Value} {n : Nat} {xs : List Value} {b i : Nat} {u : Value} (o : W.ownsRow B T c v n xs) (hb : b < B) : (W.setCell ⟨b, i, none⟩ u).ownsRow B T c v n xs :=
  o.kept (grown_set W b i u) (.inr (fun e => by have := (o.lt _ e).1; omega))
theorem OZ.set {x' y' h' k' : Int} {i : Nat} {u : Value} (o : OZ w x y h k vx vy lx ly W)
    (e : (#[.int .i64 x, .int .i64 y, .int .i64 h, .int .i64 k, vx, vy] : Array Value).setIfInBounds i u = #[.int .i64 x', .int .i64 y', .int .i64 h', .int .i64 k', vx, vy]) :
    OZ w x' y' h' k' vx vy lx ly (W.setCell ⟨w.heap.size + 1, i, none⟩ u) := by
  refine ⟨set_other o.res (by omega) _, ?_, own_set o.owx (by omega), own_set o.owy (by omega), o.apart, o.below.setCell (p := ⟨w.heap.size + 1, i, none⟩) (by simp) _⟩
  have := heap_set (i := i) o.box u
  rwa [e] at this
end
section
variable {w W W2 : World} {x y h k : Int} {vx vy v2 : Value} {lx ly l2 : List Int}
theorem OZ.boxIn (o : OZ w x y h k vx vy lx ly W) {v : Value} {n : Nat} {xs : List Value} {T : TypeId} (ow : W.ownsRow (w.heap.size + 2) T 1 v n xs) (hg : W.grownBy W2 v.ownBlock) : ∀ j, j ≤ w.heap.size + 1 → W2.heap[j]? = W.heap[j]? :=
  fun j hj => hg.block j (by have := o.size; omega) (fun e => by have := (ow.lt _ e.symm).1; omega)
theorem OZ.putX (o : OZ w x y h k vx vy lx ly W) (hg : W.grownBy W2 vx.ownBlock) (ho : W2.ownsRow (w.heap.size + 2) 3 1 v2 l2.length (jC l2)) (hw : ∀ k, v2.ownBlock = some k → vx.ownBlock = some k ∨ W.heap.size ≤ k) :
    OZ w x y h k v2 vy l2 ly (W2.setCell ⟨w.heap.size + 1, 4, none⟩ v2) := by
  have hb := o.boxIn o.owx hg
  have hy : W2.ownsRow (w.heap.size + 2) 3 1 vy ly.length (jC ly) := by
    cases hv : vx.ownBlock with
    | none => rw [hv] at hg; exact o.owy.kept hg (Classical.em _)
    | some k => rw [hv] at hg; exact o.owy.kept hg (.inr fun e => o.apart k hv e)
  refine ⟨set_other ((hb _ (by omega)).trans o.res) (by omega) _, heap_set (i := 4) ((hb _ (by omega)).trans o.box) v2, own_set ho (by omega), own_set hy (by omega), fun j hj e => ?_, ?_⟩
  · rcases hw j hj with e2 | e2
    · exact o.apart j e2 e
    · have := (o.owy.lt j e).2; omega
  · have hB : Below w.heap.size w W2 := o.below.trans ⟨hg.os, hg.tape, hg.output, hg.size, fun j hj => hb j (by omega)⟩
    exact hB.setCell (p := ⟨w.heap.size + 1, 4, none⟩) (by simp) _
theorem OZ.putY (o : OZ w x y h k vx vy lx ly W) (hg : W.grownBy W2 vy.ownBlock) (ho : W2.ownsRow (w.heap.size + 2) 3 1 v2 l2.length (jC l2)) (hw : ∀ k, v2.ownBlock = some k → vy.ownBlock = some k ∨ W.heap.size ≤ k) :
    OZ w x y h k vx v2 lx l2 (W2.setCell ⟨w.heap.size + 1, 5, none⟩ v2) := by
  have hb := o.boxIn o.owy hg
  have hx : W2.ownsRow (w.heap.size + 2) 3 1 vx lx.length (jC lx) := by
    cases hv : vy.ownBlock with
    | none => rw [hv] at hg; exact o.owx.kept hg (Classical.em _)
    | some k => rw [hv] at hg; exact o.owx.kept hg (.inr fun e => o.apart k e hv)
  refine ⟨set_other ((hb _ (by omega)).trans o.res) (by omega) _, heap_set (i := 5) ((hb _ (by omega)).trans o.box) v2, own_set hx (by omega), own_set ho (by omega), fun j hj e => ?_, ?_⟩
  · rcases hw j e with e2 | e2
    · exact o.apart j hj e2
    · have := (o.owx.lt j hj).2; omega
  · have hB : Below w.heap.size w W2 := o.below.trans ⟨hg.os, hg.tape, hg.output, hg.size, fun j hj => hb j (by omega)⟩
    exact hB.setCell (p := ⟨w.heap.size + 1, 5, none⟩) (by simp) _
end
theorem news_one (w1 : World) (v : Value) (t : TypeId) : ∀ j u, [v][j]? = some u → (w1.alloc (.cells #[v] t)).cell? ((⟨w1.heap.size, 0, none⟩ : Addr).add j) = some u :=
  World.news_of_block (heap_alloc_new w1 (.cells #[v] t))
theorem infoInt : (Try.prog.info? 3).map (fun i => (i.zero, i.size, i.bytes)) = some (some (.int .i64 0), 1, 8) := by kernel_rfl
theorem cells6 {w : World} {b : Nat} {x0 x1 x2 x3 x4 x5 : Value} {t : TypeId} (h : w.heap[b]? = some (.cells #[x0, x1, x2, x3, x4, x5] t (0, 0))) :
    (w.cell? ⟨b, 0, none⟩ = some x0 ∧ w.cell? ⟨b, 1, none⟩ = some x1 ∧ w.cell? ⟨b, 2, none⟩ = some x2 ∧ w.cell? ⟨b, 3, none⟩ = some x3 ∧ w.cell? ⟨b, 4, none⟩ = some x4 ∧ w.cell? ⟨b, 5, none⟩ = some x5) ∧
    (w.frozen? ⟨b, 0, none⟩ = false ∧ w.frozen? ⟨b, 1, none⟩ = false ∧ w.frozen? ⟨b, 2, none⟩ = false ∧ w.frozen? ⟨b, 3, none⟩ = false ∧ w.frozen? ⟨b, 4, none⟩ = false ∧ w.frozen? ⟨b, 5, none⟩ = false) :=
  ⟨⟨(cells_in h 0 rfl).1, (cells_in h 1 rfl).1, (cells_in h 2 rfl).1, (cells_in h 3 rfl).1, (cells_in h 4 rfl).1, (cells_in h 5 rfl).1⟩,
   (cells_in h 0 rfl).2, (cells_in h 1 rfl).2, (cells_in h 2 rfl).2, (cells_in h 3 rfl).2, (cells_in h 4 rfl).2, (cells_in h 5 rfl).2⟩
theorem oz_second (W : World) (c c' : Array Value) (T : TypeId) : ((W.alloc (.cells c T)).alloc (.cells c' T)).heap[W.heap.size + 1]? = some (.cells c' T (0, 0)) := by
  have := heap_alloc_last (W.alloc (.cells c T)) (.cells c' T); rwa [World.size_alloc] at this
theorem last_price {l : List Trd} {k : Nat} (h0 : k ≠ 0) (h1 : k < l.length) : (l[k - 1]'(by omega)).price = lastPr 0 (l.take k) := by
  have e : l.take k = l.take (k - 1) ++ [l[k - 1]'(by omega)] := by
    have := List.take_succ_eq_append_getElem (l := l) (i := k - 1) (by omega)
    rwa [show k - 1 + 1 = k by omega] at this
  rw [e]; unfold lastPr; rw [List.getLastD_eq_getLast?, List.getLast?_append]; rfl
theorem oz_start (w : World) : OZ w 0 0 0 0 (.slice none 0 0) (.slice none 0 0) [] [] ((w.alloc (.cells zero6 30)).alloc (.cells zero6 30)) :=
  ⟨(Below.heap_alloc _ _ _ (by simp)).trans (heap_alloc_last w _), oz_second w zero6 zero6 _, World.ownsRow_nil _ _ _ _, World.ownsRow_nil _ _ _ _, fun k h => by simp [Value.ownBlock] at h, ((Below.refl _ w).alloc (Nat.le_refl _) _).alloc (by simp) _⟩
/-- what it answers with -/
def ofR (l : List Trd) (A B : Option Addr) (c d : Nat) : Value :=
  .agg #[.int .i64 (endZ begZ true 0 l).x, .int .i64 (endZ begZ true 0 l).y, .int .i64 (endZ begZ true 0 l).h, .int .i64 (turnsZ true 0 l), .slice A l.length c, .slice B l.length d]
def OfJ (w : World) (l : List Trd) (i : Value) (wr : World) : Prop :=
  ∃ (k : Nat) (vx vy : Value), k ≤ l.length ∧ i = .int .i64 k ∧ OZ w (endZ begZ true 0 (l.take k)).x (endZ begZ true 0 (l.take k)).y (endZ begZ true 0 (l.take k)).h (turnsZ true 0 (l.take k)) vx vy ((zwalk begZ true 0 (l.take k)).map (·.x)) ((zwalk begZ true 0 (l.take k)).map (·.y)) wr
theorem turnsZ_bd : ∀ (l : List Trd) (f : Bool) (la : Int), 0 ≤ turnsZ f la l ∧ turnsZ f la l ≤ l.length
  | [], _, _ => by simp [turnsZ]
  | t :: l, f, la => by
    have := turnsZ_bd l false t.price
    simp only [turnsZ, List.length_cons]
    split <;> omega
theorem head_two {k : Nat} {la pr : Int} {h h1 h2 : Nat} {u1 u2 : Bool} (e1 : u1 = decide (k ≠ 0 ∧ la < pr)) (e2 : u2 = decide (k ≠ 0 ∧ pr < la)) (g1 : h1 = if u1 then (h + 1) % 4 else h) (g2 : h2 = if u2 then (h1 + 3) % 4 else h1) :
    headTo (decide (k = 0)) h la pr = h2 := by
  subst e1 e2
  unfold headTo
  by_cases h0 : k = 0
  · simp [h0] at g1 g2 ⊢; omega
  · by_cases a : la < pr
    · have b : ¬ pr < la := by omega
      simp [h0, a, b] at g1 g2 ⊢; omega
    · by_cases b : pr < la
      · simp [h0, a, b] at g1 g2 ⊢; omega
      · simp [h0, a, b] at g1 g2 ⊢; omega
theorem turn_two {la pr n n1 n2 : Int} {u1 u2 : Bool} {kk : Nat} (e1 : u1 = decide (kk ≠ 0 ∧ la < pr)) (e2 : u2 = decide (kk ≠ 0 ∧ pr < la)) (g1 : n1 = if u1 then n + 1 else n) (g2 : n2 = if u2 then n1 + 1 else n1) :
    (n + if decide (kk = 0) = false ∧ la ≠ pr then 1 else 0) = n2 := by
  subst e1 e2
  by_cases h0 : kk = 0
  · simp [h0] at g1 g2 ⊢; omega
  · by_cases a : la < pr
    · have b : ¬ pr < la := by omega
      have c : la ≠ pr := by omega
      simp [h0, a, b, c] at g1 g2 ⊢; omega
    · by_cases b : pr < la
      · have c : la ≠ pr := by omega
        simp [h0, a, b, c] at g1 g2 ⊢; omega
      · have c : la = pr := by omega
        simp [h0, a, b, c] at g1 g2 ⊢; omega
theorem oz_next {w W : World} {l : List Trd} {k : Nat} {z' : Pz} {lz : List Pz} {n2 zx zy : Int} {h2 : Nat} {v1 v2 : Value} (eZ : endZ begZ true 0 (l.take (k + 1)) = z') (eW : zwalk begZ true 0 (l.take (k + 1)) = lz ++ [z'])
    (eT : turnsZ true 0 (l.take (k + 1)) = n2) (ex : z'.x = zx) (ey : z'.y = zy) (eh : z'.h = h2) (h : OZ w zx zy h2 n2 v1 v2 (lz.map (·.x) ++ [zx]) (lz.map (·.y) ++ [zy]) W) :
    OZ w (endZ begZ true 0 (l.take (k + 1))).x (endZ begZ true 0 (l.take (k + 1))).y (endZ begZ true 0 (l.take (k + 1))).h (turnsZ true 0 (l.take (k + 1))) v1 v2 ((zwalk begZ true 0 (l.take (k + 1))).map (·.x)) ((zwalk begZ true 0 (l.take (k + 1))).map (·.y)) W := by
  rw [eZ, eW, eT, List.map_append, List.map_append]
  subst ex ey eh
  exact h
set_option maxHeartbeats 4000000 in
set_option maxRecDepth 100000 in
theorem refOf_any (A : Option Addr) (c : Nat) (l : List Trd) (hl : l.length ≤ 1000) (hok : ∀ p ∈ l, p.ok) (w : World) (R : TRow w A l) :
    Calls Try.prog 8 #[.slice A l.length c] w fun e w' => ∃ AX AY cx cy, e = .returned (ofR l AX AY cx cy) ∧ IRow w' AX ((zwalk begZ true 0 l).map (·.x)) ∧ IRow w' AY ((zwalk begZ true 0 l).map (·.y)) ∧ ((∀ a, AX = some a → w.heap.size ≤ a.block) ∧ (∀ a, AY = some a → w.heap.size ≤ a.block)) ∧ Below w.heap.size w w' := by
  obtain ⟨i0, hi, hz0, hz1, hz2⟩ := info_parts infoInt
  have HI := Lib.hid (And.intro hi (And.intro hz0 (And.intro hz1 hz2)))
  clear hi hz0 hz1 hz2
  have HR := Lib.hid R
  have HOK := Lib.hid hok
  have O0 := Lib.hid (oz_start w)
  have hlc : (l.length : Int) ≤ 1000 := by omega
  clear R hok
  unfold zero6 at O0
  go_enter Try.func8, Try.ntmps8
  go_wp2
  go_loopw [9] (fun i wr => OfJ w l i wr) (fun i _ => l.length - (intOf i).toNat)
  case atStart => exact ⟨0, _, _, by omega, rfl, by simpa [zwalk, endZ, begZ, turnsZ] using O0.out⟩
  case round =>
    clear O0
    obtain ⟨k, vx, vy, hk, rfl, ho⟩ := hrel
    by_cases h1 : k < l.length
    · obtain ⟨a, rfl, hab, hcl⟩ := HR.out (by omega)
      have xk := hcl k h1
      have HZ := Lib.hid (endZ_snoc l[k] (l.take k) begZ true 0)
      have HW := Lib.hid (zwalk_snoc l[k] (l.take k) begZ true 0)
      have HT := Lib.hid (turnsZ_snoc l[k] (l.take k) true 0)
      have hlt : (l.take k).length = k := by simp; omega
      have hem : (true && (l.take k).isEmpty) = decide (k = 0) := by
        rw [Bool.true_and]
        by_cases h0 : k = 0
        · subst h0; rfl
        · rw [decide_eq_false h0]
          cases hh : l.take k with
          | nil => rw [hh] at hlt; simp at hlt; omega
          | cons _ _ => rfl
      rw [hem, ← List.take_succ_eq_append_getElem h1] at HZ HW HT
      obtain ⟨⟨g1, g2⟩, _⟩ := walk_at (l.take k) begW begZ 0 0 pf_beg bz_beg (by omega)
      have g4 := g1.h4
      have gx := g1.bx
      have gy := g1.by_
      have gt := turnsZ_bd (l.take k) true 0
      have hzl := zwalk_len (l.take k) begZ true 0
      rw [hlt] at gx gy gt hzl
      simp only [show ((0 : Nat) == 0) = true from rfl, Nat.zero_add] at g4 gx gy
      clear g1 g2 hem hlt
      have HP : Hid (k ≠ 0 → w.cell? ⟨(a.add ((k - 1) * 4)).block, (a.add ((k - 1) * 4)).off + 2, none⟩ = some (.int .i64 (lastPr 0 (l.take k)))) := Lib.hid (fun h0 => by
        rw [← last_price h0 h1]; exact (hcl (k - 1) (by omega)).2.2.1)
      have ok := HOK.out l[k] (List.getElem_mem h1)
      have hbl : ∀ j, (a.add j).block < w.heap.size := fun j => by rw [block_add]; exact hab
      clear hcl
      generalize lastPr 0 (l.take k) = la at *
      generalize endZ begZ true 0 (l.take k) = z at *
      generalize zwalk begZ true 0 (l.take k) = lz at *
      generalize turnsZ true 0 (l.take k) = tz at *
      generalize l[k] = y at *
      obtain ⟨mk, tk, pr, sz⟩ := y
      obtain ⟨c0, c1, c2, c3⟩ := xk
      obtain ⟨⟨o1, o2⟩, o3, o4⟩ := ok
      simp only at c0 c1 c2 c3 o1 o2 o3 o4 HZ HW HT
      have OH := Lib.hid ho
      have x0 := (ho.below.cell (p := a.add (k * 4)) (hbl _)).trans c0
      have x1 : wr.cell? ⟨(a.add (k * 4)).block, (a.add (k * 4)).off + 1, none⟩ = some (.int .u64 tk) := (ho.below.cell (p := (a.add (k * 4)).add 1) (by rw [block_add]; exact hbl _)).trans c1
      have x2 : wr.cell? ⟨(a.add (k * 4)).block, (a.add (k * 4)).off + 2, none⟩ = some (.int .i64 pr) := (ho.below.cell (p := (a.add (k * 4)).add 2) (by rw [block_add]; exact hbl _)).trans c2
      have x3 : wr.cell? ⟨(a.add (k * 4)).block, (a.add (k * 4)).off + 3, none⟩ = some (.int .i64 sz) := (ho.below.cell (p := (a.add (k * 4)).add 3) (by rw [block_add]; exact hbl _)).trans c3
      have hbb := ho.below
      clear ho c0 c1 c2 c3
      go_upto_region 5 with fail
      obtain ⟨W4, hW4⟩ : ∃ W, W = wr.alloc (.cells #[.int .u64 mk, .int .u64 tk, .int .i64 pr, .int .i64 sz] 46) := ⟨_, rfl⟩
      have O4 : Hid (OZ w z.x z.y z.h tz vx vy (lz.map (·.x)) (lz.map (·.y)) W4) := by rw [hW4]; exact OH.out.alloc _
      have B5 : Hid (W4.heap[wr.heap.size]? = some (.cells #[.int .u64 mk, .int .u64 tk, .int .i64 pr, .int .i64 sz] 46 (0, 0))) := by rw [hW4]; exact heap_alloc_last wr _
      have HP4 : Hid (k ≠ 0 → W4.cell? ⟨(a.add ((k - 1) * 4)).block, (a.add ((k - 1) * 4)).off + 2, none⟩ = some (.int .i64 la)) := Lib.hid (fun h0 => (O4.out.below.cell (p := ⟨(a.add ((k - 1) * 4)).block, (a.add ((k - 1) * 4)).off + 2, none⟩) (hbl _)).trans (HP.out h0))
      have HPB : Hid (∀ W, Below w.heap.size w W → k ≠ 0 → W.cell? ⟨(a.add ((k - 1) * 4)).block, (a.add ((k - 1) * 4)).off + 2, none⟩ = some (.int .i64 la)) := Lib.hid (fun W hb h0 => (hb.cell (p := ⟨(a.add ((k - 1) * 4)).block, (a.add ((k - 1) * 4)).off + 2, none⟩) (hbl _)).trans (HP.out h0))
      have hw5 : w.heap.size + 1 < wr.heap.size := OH.out.size
      rw [← hW4]
      clear hW4 x0 x1 x2 x3 OH HP hbb
      have d2 := (cells_in B5.out 2 (v := .int .i64 pr) rfl).1
      have d3 := (cells_in B5.out 3 (v := .int .i64 sz) rfl).1
      obtain ⟨u1, hu1⟩ : ∃ u : Bool, u = decide (k ≠ 0 ∧ la < pr) := ⟨_, rfl⟩
      have HU1 := Lib.hid hu1
      clear hu1
      go_cut [26] (fun s26 wx => s26 = .bool u1 ∧ OZ w z.x z.y z.h tz vx vy (lz.map (·.x)) (lz.map (·.y)) wx ∧ wx.heap[wr.heap.size]? = some (.cells #[.int .u64 mk, .int .u64 tk, .int .i64 pr, .int .i64 sz] 46 (0, 0)))
      case first =>
        by_cases h0 : k = 0
        · subst h0
          go_quiet (fail)
          go_wp2
          go_meet
          case rel => exact ⟨by rw [HU1.out]; rfl, O4.out.drewN _, B5.out⟩
        · have p2 := HP4.out h0
          have hk0 : (0 : Int) < (k : Int) := by omega
          have hix : ((k : Int) - 1).toNat = k - 1 := by omega
          have hkn : 0 < k := by omega
          have cb0 : decide (0 < k) = true := decide_eq_true hkn
          have hb1 : (0 : Int) ≤ (k : Int) - 1 := by omega
          have hb2 : (k : Int) - 1 < (l.length : Int) := by omega
          by_cases h3 : la < pr
          · have cb : decide (la < pr) = true := decide_eq_true h3
            go_quiet (fail)
            go_wp2
            go_meet
            case rel => exact ⟨by rw [HU1.out]; simp [h0, h3], O4.out.drewN _, B5.out⟩
          · have cb : decide (la < pr) = false := decide_eq_false h3
            go_quiet (fail)
            go_wp2
            go_meet
            case rel => exact ⟨by rw [HU1.out]; simp [h0, h3], O4.out.drewN _, B5.out⟩
      case rest =>
      obtain ⟨rfl, ho, hb5⟩ := hcut
      have O5 := Lib.hid ho
      have B6 := Lib.hid hb5
      obtain ⟨⟨e0, e1, e2, e3, e4, e5⟩, f0, f1, f2, f3, f4, f5⟩ := cells6 ho.box
      clear ho hb5 d2 d3
      have hz1 : ((z.h : Int) + 1).tmod 4 = ((z.h + 1) % 4 : Nat) := by rw [Int.tmod_eq_emod_of_nonneg (by omega)]; omega
      obtain ⟨h1, hh1⟩ : ∃ h : Nat, h = if u1 then (z.h + 1) % 4 else z.h := ⟨_, rfl⟩
      obtain ⟨n1, hn1⟩ : ∃ n : Int, n = if u1 then tz + 1 else tz := ⟨_, rfl⟩
      have HH1 := Lib.hid (And.intro hh1 hn1)
      clear hh1 hn1
      go_upto_if 26 with fail
      go_cut [30] (fun _ wx => OZ w z.x z.y h1 n1 vx vy (lz.map (·.x)) (lz.map (·.y)) wx ∧ wx.heap[wr.heap.size]? = some (.cells #[.int .u64 mk, .int .u64 tk, .int .i64 pr, .int .i64 sz] 46 (0, 0)))
      case first =>
        cases u1 with
        | true =>
          go_wp2
          go_meet
          case rel =>
            obtain ⟨eh, en⟩ := HH1.out
            simp only [if_true] at eh en
            have ec : ((z.h : Int) + 1) % 4 = (h1 : Int) := by omega
            rw [ec, ← en]
            exact ⟨(O5.out.set (h' := (h1 : Int)) rfl).set rfl, set_other (set_other B6.out (by omega) _) (by omega) _⟩
        | false =>
          go_wp2
          go_meet
          case rel =>
            obtain ⟨rfl, rfl⟩ := HH1.out
            exact ⟨O5.out, B6.out⟩
      case rest =>
      obtain ⟨ho, hb5⟩ := hcut
      have hh4 : h1 < 4 := by
        obtain ⟨eh, _⟩ := HH1.out
        rw [eh]; split <;> omega
      have hn4 : 0 ≤ n1 ∧ n1 ≤ k + 1 := by
        obtain ⟨_, en⟩ := HH1.out
        rw [en]; split <;> omega
      have O6 := Lib.hid ho
      have B7 := Lib.hid hb5
      have d2 := (cells_in hb5 2 (v := .int .i64 pr) rfl).1
      have d3 := (cells_in hb5 3 (v := .int .i64 sz) rfl).1
      clear ho hb5 e0 e1 e2 e3 e4 e5 f0 f1 f2 f3 f4 f5
      go_upto_region 8 with fail
      obtain ⟨u2, hu2⟩ : ∃ u : Bool, u = decide (k ≠ 0 ∧ pr < la) := ⟨_, rfl⟩
      have HU2 := Lib.hid hu2
      clear hu2
      go_cut [48] (fun s48 wx => s48 = .bool u2 ∧ OZ w z.x z.y h1 n1 vx vy (lz.map (·.x)) (lz.map (·.y)) wx ∧ wx.heap[wr.heap.size]? = some (.cells #[.int .u64 mk, .int .u64 tk, .int .i64 pr, .int .i64 sz] 46 (0, 0)))
      case first =>
        by_cases h0 : k = 0
        · subst h0
          go_quiet (fail)
          go_wp2
          go_meet
          case rel => exact ⟨by rw [HU2.out]; rfl, O6.out.drewN _, B7.out⟩
        · have p2 := HPB.out _ O6.out.below h0
          have hk0 : (0 : Int) < (k : Int) := by omega
          have hix : ((k : Int) - 1).toNat = k - 1 := by omega
          have hkn : 0 < k := by omega
          have cb0 : decide (0 < k) = true := decide_eq_true hkn
          have hb1 : (0 : Int) ≤ (k : Int) - 1 := by omega
          have hb2 : (k : Int) - 1 < (l.length : Int) := by omega
          by_cases h3 : pr < la
          · have cb : decide (pr < la) = true := decide_eq_true h3
            go_quiet (fail)
            go_wp2
            go_meet
            case rel => exact ⟨by rw [HU2.out]; simp [h0, h3], O6.out.drewN _, B7.out⟩
          · have cb : decide (pr < la) = false := decide_eq_false h3
            go_quiet (fail)
            go_wp2
            go_meet
            case rel => exact ⟨by rw [HU2.out]; simp [h0, h3], O6.out.drewN _, B7.out⟩
      case rest =>
      obtain ⟨rfl, ho, hb5⟩ := hcut
      have O7 := Lib.hid ho
      have B8 := Lib.hid hb5
      obtain ⟨⟨e0, e1, e2, e3, e4, e5⟩, f0, f1, f2, f3, f4, f5⟩ := cells6 ho.box
      clear ho hb5 d2 d3
      obtain ⟨h2, hh2⟩ : ∃ h : Nat, h = if u2 then (h1 + 3) % 4 else h1 := ⟨_, rfl⟩
      obtain ⟨n2, hn2⟩ : ∃ n : Int, n = if u2 then n1 + 1 else n1 := ⟨_, rfl⟩
      have HH2 := Lib.hid (And.intro hh2 hn2)
      clear hh2 hn2
      go_upto_if 48 with fail
      go_cut [50] (fun _ wx => OZ w z.x z.y h2 n2 vx vy (lz.map (·.x)) (lz.map (·.y)) wx ∧ wx.heap[wr.heap.size]? = some (.cells #[.int .u64 mk, .int .u64 tk, .int .i64 pr, .int .i64 sz] 46 (0, 0)))
      case first =>
        cases u2 with
        | true =>
          go_wp2
          go_meet
          case rel =>
            obtain ⟨eh, en⟩ := HH2.out
            simp only [if_true] at eh en
            have ec : ((h1 : Int) + 3) % 4 = (h2 : Int) := by omega
            rw [ec, ← en]
            exact ⟨(O7.out.set (h' := (h2 : Int)) rfl).set rfl, set_other (set_other B8.out (by omega) _) (by omega) _⟩
        | false =>
          go_wp2
          go_meet
          case rel =>
            obtain ⟨rfl, rfl⟩ := HH2.out
            exact ⟨O7.out, B8.out⟩
      case rest =>
      obtain ⟨ho, hb5⟩ := hcut
      have hh5 : h2 < 4 := by
        obtain ⟨eh, _⟩ := HH2.out
        rw [eh]; split <;> omega
      have O8 := Lib.hid ho
      have B9 := Lib.hid hb5
      have d3 := (cells_in hb5 3 (v := .int .i64 sz) rfl).1
      clear ho hb5 e0 e1 e2 e3 e4 e5 f0 f1 f2 f3 f4 f5
      go_upto_if 60 with fail
      obtain ⟨m1, hm1⟩ : ∃ m : Int, m = if sz < 1000 then sz else 1000 := ⟨_, rfl⟩
      have HM1 := Lib.hid hm1
      clear hm1
      go_cut [6] (fun s6 wx => s6 = .int .i64 m1 ∧ OZ w z.x z.y h2 n2 vx vy (lz.map (·.x)) (lz.map (·.y)) wx ∧ wx.heap[wr.heap.size]? = some (.cells #[.int .u64 mk, .int .u64 tk, .int .i64 pr, .int .i64 sz] 46 (0, 0)))
      case first =>
        by_cases h3 : sz < 1000
        · go_wp2
          go_meet
          case rel => exact ⟨by rw [HM1.out, if_pos h3], O8.out, B9.out⟩
        · go_wp2
          go_meet
          case rel => exact ⟨by rw [HM1.out, if_neg (by omega)], O8.out, B9.out⟩
      case rest =>
      obtain ⟨rfl, ho, hb5⟩ := hcut
      have O9 := Lib.hid ho
      have BA := Lib.hid hb5
      clear d3
      have d3 := (cells_in hb5 3 (v := .int .i64 sz) rfl).1
      clear ho hb5
      go_upto_if 65 with fail
      go_cut [6] (fun s6 wx => s6 = .int .i64 (clamp sz) ∧ OZ w z.x z.y h2 n2 vx vy (lz.map (·.x)) (lz.map (·.y)) wx ∧ wx.heap[wr.heap.size]? = some (.cells #[.int .u64 mk, .int .u64 tk, .int .i64 pr, .int .i64 sz] 46 (0, 0)))
      case first =>
        by_cases h3 : sz < 0
        · go_wp2
          go_meet
          case rel => exact ⟨by unfold clamp; congr 1; omega, O9.out, BA.out⟩
        · go_wp2
          go_meet
          case rel => exact ⟨by rw [HM1.out]; unfold clamp; congr 1; split <;> omega, O9.out, BA.out⟩
      case rest =>
      obtain ⟨rfl, ho, hb5⟩ := hcut
      have OA := Lib.hid ho
      obtain ⟨⟨e0, e1, e2, e3, e4, e5⟩, f0, f1, f2, f3, f4, f5⟩ := cells6 ho.box
      obtain ⟨cl1, cl2⟩ := clamp_bd sz
      clear ho hb5 d3
      obtain ⟨cs, hcs⟩ : ∃ c, c = clamp sz := ⟨_, rfl⟩
      have HCS := Lib.hid hcs
      rw [← hcs] at cl1 cl2 ⊢
      clear hcs
      have hx1 : -1000000 ≤ z.x ∧ z.x ≤ 1000000 := by omega
      have hy1 : -1000000 ≤ z.y ∧ z.y ≤ 1000000 := by omega
      go_upto_block 2 with fail
      go_cut [73] (fun _ wx => OZ w (z.x + tr h2 1 0 * cs) (z.y + ti h2 1 0 * cs) h2 n2 vx vy (lz.map (·.x)) (lz.map (·.y)) wx)
      case first =>
        have h4 : h2 = 0 ∨ h2 = 1 ∨ h2 = 2 ∨ h2 = 3 := by omega
        rcases h4 with rfl | rfl | rfl | rfl
        · go_wp2
          go_meet
          case rel => exact OA.out.set (by rw [show tr 0 1 0 = 1 by decide, show ti 0 1 0 = 0 by decide, show z.x + 1 * cs = z.x + cs by omega, show z.y + 0 * cs = z.y by omega]; rfl)
        · go_wp2
          go_meet
          case rel => exact OA.out.set (by rw [show tr 1 1 0 = 0 by decide, show ti 1 1 0 = 1 by decide, show z.x + 0 * cs = z.x by omega, show z.y + 1 * cs = z.y + cs by omega]; rfl)
        · go_wp2
          go_meet
          case rel => exact OA.out.set (by rw [show tr 2 1 0 = -1 by decide, show ti 2 1 0 = 0 by decide, show z.x + -1 * cs = z.x - cs by omega, show z.y + 0 * cs = z.y by omega]; rfl)
        · go_wp2
          go_meet
          case rel => exact OA.out.set (by rw [show tr 3 1 0 = 0 by decide, show ti 3 1 0 = -1 by decide, show z.x + 0 * cs = z.x by omega, show z.y + -1 * cs = z.y - cs by omega]; rfl)
      case rest =>
      have hoc := hcut
      clear hcut e0 e1 e2 e3 e4 e5 f0 f1 f2 f3 f4 f5
      obtain ⟨zx, hzx⟩ : ∃ c, c = z.x + tr h2 1 0 * cs := ⟨_, rfl⟩
      obtain ⟨zy, hzy⟩ : ∃ c, c = z.y + ti h2 1 0 * cs := ⟨_, rfl⟩
      rw [← hzx, ← hzy] at hoc
      have HZX := Lib.hid (And.intro hzx hzy)
      clear hzx hzy
      have OC := Lib.hid hoc
      obtain ⟨⟨e0, e1, e2, e3, e4, e5⟩, f0, f1, f2, f3, f4, f5⟩ := cells6 hoc.box
      clear hoc
      go_upto_region 25 with (first
          | (at_builtin
             refine wpList_append_lies _ rfl (.tmp 95) (.tmp 98) 28 rfl (w.heap.size + 2) 3 i0 _ 1 8 Try.underlying28 HI.out.1 HI.out.2.1 HI.out.2.2.1 HI.out.2.2.2 rfl (by decide) vx (lz.map (·.x)).length (jC (lz.map (·.x))) rfl (OC.out.owx.alloc _) ⟨wc.heap.size, 0, none⟩ 1 1 [.int .i64 zx] rfl rfl (news_one wc _ _) (by simp [Value.oneCell']) (by omega) (by unfold maxLen; simp; omega) (by simp; omega) (by have := OC.out.size; simp; omega) (wc.heap.size + 1) (by simp) ?_
             intro g8 cap8 w8 hown hgrow hwhere hlt
             have b6 := ((OC.out.alloc _).boxIn (OC.out.owx.alloc _) hgrow _ (Nat.le_refl _)).trans (OC.out.alloc _).box
             have D4 := (cells6 b6).1.2.2.2.2.1
             have F4 := (cells6 b6).2.2.2.2.2.1
             have OD := Lib.hid ((OC.out.alloc _).putX (l2 := lz.map (·.x) ++ [zx]) hgrow (by rw [jC_snoc, List.length_append]; exact hown) (fun k hk => by
               rcases hwhere with e | e
               · left; rw [e]; exact hk
               · right; simp [Value.ownBlock] at hk; simp; omega))
             clear hown hgrow hwhere hlt b6))
      obtain ⟨W9, hW9⟩ : ∃ W, W = w8.setCell ⟨w.heap.size + 1, 4, none⟩ (.slice (some ⟨g8, 0, none⟩) (k + 1) cap8) := ⟨_, rfl⟩
      have OE : Hid (OZ w zx zy h2 n2 (.slice (some ⟨g8, 0, none⟩) (k + 1) cap8) vy (lz.map (·.x) ++ [zx]) (lz.map (·.y)) W9) := by
        have h := OD.out
        rw [List.length_map, hzl] at h
        rw [hW9]; exact h
      rw [← hW9]
      clear hW9 OD D4 F4 e0 e1 e2 e3 e4 e5 f0 f1 f2 f3 f4 f5
      obtain ⟨⟨e0, e1, e2, e3, e4, e5⟩, f0, f1, f2, f3, f4, f5⟩ := cells6 OE.out.box
      go_wp2_with (first
          | (at_builtin
             refine wpList_append_lies _ rfl (.tmp 102) (.tmp 105) 28 rfl (w.heap.size + 2) 3 i0 _ 1 8 Try.underlying28 HI.out.1 HI.out.2.1 HI.out.2.2.1 HI.out.2.2.2 rfl (by decide) vy (lz.map (·.y)).length (jC (lz.map (·.y))) rfl (OE.out.owy.alloc _) ⟨W9.heap.size, 0, none⟩ 1 1 [.int .i64 zy] rfl rfl (news_one W9 _ _) (by simp [Value.oneCell']) (by omega) (by unfold maxLen; simp; omega) (by simp; omega) (by have := OE.out.size; simp; omega) (W9.heap.size + 1) (by simp) ?_
             intro g7 cap7 w7 hown hgrow hwhere hlt
             have b6 := ((OE.out.alloc _).boxIn (OE.out.owy.alloc _) hgrow _ (Nat.le_refl _)).trans (OE.out.alloc _).box
             have D5 := (cells6 b6).1.2.2.2.2.2
             have F5 := (cells6 b6).2.2.2.2.2.2
             have OF := Lib.hid ((OE.out.alloc _).putY (l2 := lz.map (·.y) ++ [zy]) hgrow (by rw [jC_snoc, List.length_append]; exact hown) (fun k hk => by
               rcases hwhere with e | e
               · left; rw [e]; exact hk
               · right; simp [Value.ownBlock] at hk; simp; omega))
             clear hown hgrow hwhere hlt b6))
      go_roundw
      case rel =>
        have eh := head_two HU1.out HU2.out HH1.out.1 HH2.out.1
        have en := turn_two HU1.out HU2.out HH1.out.2 HH2.out.2
        have ex : (stepZ z (decide (k = 0)) la pr sz).x = zx := by simp only [stepZ, eh]; rw [HZX.out.1, HCS.out]
        have ey : (stepZ z (decide (k = 0)) la pr sz).y = zy := by simp only [stepZ, eh]; rw [HZX.out.2, HCS.out]
        have eH : (stepZ z (decide (k = 0)) la pr sz).h = h2 := by simp only [stepZ, eh]
        have h := OF.out
        rw [List.length_map, hzl] at h
        have ei : Value.int .i64 ((k : Int) + 1) = .int .i64 ((k + 1 : Nat) : Int) := by rw [Int.natCast_add]; rfl
        refine ⟨k + 1, .slice (some ⟨g8, 0, none⟩) (k + 1) cap8, .slice (some ⟨g7, 0, none⟩) (k + 1) cap7, Nat.succ_le_of_lt ‹k < l.length›, ei, oz_next HZ.out HW.out (HT.out.trans en) ex ey eH h⟩
      case measure => simp [intOf]; omega
    · obtain rfl : k = l.length := by omega
      rw [List.take_length] at ho
      obtain ⟨AX, cx, rfl, RX⟩ := irow_of ho.owx
      obtain ⟨AY, cy, rfl, RY⟩ := irow_of ho.owy
      have OXY := Lib.hid (And.intro ho.owx ho.owy)
      simp only [List.length_map, zwalk_len] at ho
      have HB := Lib.hid ho.below
      have hsz := ho.size
      obtain ⟨⟨e0, e1, e2, e3, e4, e5⟩, -⟩ := cells6 ho.box
      have hr := ho.res
      unfold zero6 at hr
      obtain ⟨⟨d0, d1, d2, d3, d4, d5⟩, f0, f1, f2, f3, f4, f5⟩ := cells6 hr
      have HHR := Lib.hid hr
      clear ho RX RY hr hk h1
      generalize hz : endZ begZ true 0 l = z at *
      generalize ht : turnsZ true 0 l = tz at *
      have HE := Lib.hid (And.intro hz ht)
      clear hz ht
      go_wp2
      obtain ⟨rfl, rfl⟩ := HE.out
      refine bodyPost_ret (v := ofR l AX AY cx cy) ?_ rfl ⟨AX, AY, cx, cy, rfl, ?_, ?_, ⟨fun a e => ?_, fun a e => ?_⟩, ?_⟩
      · simp [ofR, results, Try.results8, go_sem, d0, d1, d2, d3, d4, d5, f0, f1, f2, f3, f4, f5]
      · exact irow_at (own_set (own_set (own_set (own_set (own_set (own_set OXY.out.1 (by omega)) (by omega)) (by omega)) (by omega)) (by omega)) (by omega))
      · exact irow_at (own_set (own_set (own_set (own_set (own_set (own_set OXY.out.2 (by omega)) (by omega)) (by omega)) (by omega)) (by omega)) (by omega))
      · subst e; have := (OXY.out.1.lt a.block rfl).1; omega
      · subst e; have := (OXY.out.2.lt a.block rfl).1; omega
      · exact (((((HB.out.setCell (Nat.le_refl _) _).setCell (Nat.le_refl _) _).setCell (Nat.le_refl _) _).setCell (Nat.le_refl _) _).setCell (Nat.le_refl _) _).setCell (Nat.le_refl _) _
end Go.Proofs.Ytligdamibjclnaa.Wk
