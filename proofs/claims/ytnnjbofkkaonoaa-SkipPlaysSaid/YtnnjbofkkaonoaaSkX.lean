/-
  What the law SkipPlays has in memory. Conditions: as each theorem states.
-/
import Derived.Test.YtnnjbofkkaonoaaSkH2
import Derived.Test.YtnnjbofkkaonoaaSkU
import Derived.Test.YtnnjbofkkaonoaaSkZ
namespace Go.Proofs.Ytnnjbofkkaonoaa.Sk
open Go.RowKit Go.Shelf

theorem prat_of_owns {w : World} {B : Nat} {v : Value} {q : List Pr} (h : w.ownsRow B 35 2 v q.length (prRow q)) : PrAt w v q ∧ ∀ g, v.ownBlock = some g → B ≤ g := by
  refine ⟨?_, fun g hg => (h.lt g hg).1⟩
  rcases h.2 with ⟨rfl, h0⟩ | ⟨g, cap, cur, rfl, hb, hg, hcap⟩
  · exact ⟨none, 0, by rw [h0], by omega, fun h1 => by omega⟩
  · refine ⟨some ⟨g, 0, none⟩, cap, rfl, ?_, fun h1 => ?_⟩
    · first | exact hcap.1 | omega
    · obtain ⟨g', cap', e, _, hg', hc⟩ := rowCells h h1
      simp only [Value.slice.injEq] at e
      obtain ⟨e, _, _⟩ := e
      exact ⟨g', e, hg', hc⟩
/-- a row of pairs that lies beside a list -/
def KR (W : World) (l : Nat) (v : Value) (rv : Value) (q : List Pr) : Prop := PrAt W rv q ∧ ∀ g, rv.ownBlock = some g → g ∉ feet l v
theorem prat_own {W : World} {rv : Value} {q : List Pr} (h : PrAt W rv q) (h0 : 0 < q.length) : ∃ g, rv.ownBlock = some g ∧ g < W.heap.size := by
  obtain ⟨A, c, rfl, _, hc⟩ := h
  obtain ⟨g, rfl, hg, _⟩ := hc h0
  exact ⟨g, by simp [Value.ownBlock], hg⟩
theorem prat_block {W W' : World} {rv : Value} {q : List Pr} (h : PrAt W rv q) (hk : ∀ g, rv.ownBlock = some g → g < W.heap.size → W'.heap[g]? = W.heap[g]?) (hs : W.heap.size ≤ W'.heap.size) : PrAt W' rv q := by
  obtain ⟨A, c, rfl, hcap, hc⟩ := h
  refine ⟨A, c, rfl, hcap, fun h0 => ?_⟩
  obtain ⟨g, rfl, hg, hx⟩ := hc h0
  have hb := hk g (by simp [Value.ownBlock]) hg
  exact ⟨g, rfl, Nat.lt_of_lt_of_le hg hs, fun j x hj => (World.cell?_of_block (a := ⟨g, j, none⟩) hb).trans (hx j x hj)⟩
theorem kr_below {W W' : World} {l : Nat} {v rv : Value} {q : List Pr} (h : KR W l v rv q) (hb : Below W.heap.size W W') : KR W' l v rv q := ⟨prat_below h.1 hb, h.2⟩
theorem kr_only {W W' : World} {l : Nat} {v rv : Value} {q : List Pr} (h : KR W l v rv q) (hm : Only (feet l v) W W') : KR W' l v rv q :=
  ⟨prat_block h.1 (fun g hg hlt => hm.block g hlt (h.2 g hg)) hm.size, h.2⟩
/-- the list, the map, the document's row -/
structure PS (w : World) (l m : Nat) (v : Value) (P : List Pr) (n : Nat) (st : Int) (hg : ByteArray → Nat) (mn : Nat) (mp : ByteArray → Option Nat) (qv : Value) (Q : List Pr) (W : World) : Prop where
  lst : LstH W l v P n st hg
  map : HMap W m mn mp
  row : PrAt W qv Q
  mf : m ∉ feet l v
  qf : ∀ g, qv.ownBlock = some g → g < W.heap.size ∧ g ∉ feet l v ∧ g ≠ m
  low : ∀ k ∈ feet l v, w.heap.size ≤ k
  mlow : w.heap.size ≤ m
  below : Below w.heap.size w W
section
variable {w W W' : World} {l m n mn n' mn' : Nat} {v v' qv qv' : Value} {P P' Q Q' : List Pr} {st st' : Int} {hg hg' : ByteArray → Nat} {mp mp' : ByteArray → Option Nat}
theorem ps_below (h : PS w l m v P n st hg mn mp qv Q W) (hb : Below W.heap.size W W') : PS w l m v P n st hg mn mp qv Q W' :=
  ⟨h.lst.below hb, hmap_kept h.map (hb.block _ (hmap_lt h.map)), prat_below h.row hb, h.mf, fun g hg => ⟨Nat.lt_of_lt_of_le (h.qf g hg).1 hb.size, (h.qf g hg).2⟩, h.low, h.mlow, h.below.trans (hb.mono h.below.size)⟩
theorem ps_moves (h : PS w l m v P n st hg mn mp qv Q W) (hl : LstH W' l v' P' n' st' hg') (hm : Moves W (feet l v) W' (feet l v')) : PS w l m v' P' n' st' hg' mn mp qv Q W' := by
  have hmlt := hmap_lt h.map
  refine ⟨hl, hmap_kept h.map (hm.only.block _ hmlt h.mf), prat_block h.row (fun g hg hlt => hm.only.block g hlt (h.qf g hg).2.1) hm.only.size, fun hk => ?_, fun g hg => ?_, hm.low h.low h.below.size, h.mlow, h.below.trans (hm.below h.low h.below.size)⟩
  · rcases hm.fresh m hk with h1 | h1
    · exact h.mf h1
    · omega
  · obtain ⟨h1, h2, h3⟩ := h.qf g hg
    refine ⟨Nat.lt_of_lt_of_le h1 hm.only.size, fun hk => ?_, h3⟩
    rcases hm.fresh g hk with h4 | h4
    · exact h2 h4
    · omega
theorem ps_map (h : PS w l m v P n st hg mn mp qv Q W) (hM : HMap W' m mn' mp') (hgr : W.grownBy W' (some m)) : PS w l m v P n st hg mn' mp' qv Q W' :=
  ⟨h.lst.kept (fun k hk => hgr.block k (h.lst.lt k hk) (fun e => h.mf (by injection e with e; rw [← e]; exact hk))), hM, prat_block h.row (fun g hg hlt => hgr.block g hlt (fun e => (h.qf g hg).2.2 (by injection e))) hgr.size, h.mf, fun g hg => ⟨Nat.lt_of_lt_of_le (h.qf g hg).1 hgr.size, (h.qf g hg).2⟩, h.low, h.mlow,
    h.below.trans ⟨hgr.os, hgr.tape, hgr.output, hgr.size, fun k hk => hgr.block k (Nat.lt_of_lt_of_le hk h.below.size) (fun e => by injection e with e; have := h.mlow; omega)⟩⟩
theorem ps_row (h : PS w l m v P n st hg mn mp qv Q W) (hb : Below W.heap.size W W') (hr : PrAt W' qv' Q') (hlow : ∀ g, qv'.ownBlock = some g → W.heap.size ≤ g ∧ g < W'.heap.size) : PS w l m v P n st hg mn mp qv' Q' W' := by
  have h2 := ps_below h hb
  refine ⟨h2.lst, h2.map, hr, h.mf, fun g hg => ⟨(hlow g hg).2, fun hk => ?_, fun e => ?_⟩, h.low, h.mlow, h2.below⟩
  · have := h.lst.lt g hk; have := (hlow g hg).1; omega
  · have := hmap_lt h.map; have := (hlow g hg).1; omega
theorem ps_kr (h : PS w l m v P n st hg mn mp qv Q W) : KR W l v qv Q := ⟨h.row, fun g hg => (h.qf g hg).2.1⟩
/-- a new row beside the list -/
theorem kr_new (h : PS w l m v P n st hg mn mp qv Q W) (hr : PrAt W' qv' Q') (hlow : ∀ g, qv'.ownBlock = some g → W.heap.size ≤ g) : KR W' l v qv' Q' :=
  ⟨hr, fun g hg hk => by have := h.lst.lt g hk; have := hlow g hg; omega⟩
end
/-- the row's beginning -/
theorem prat_cut {W : World} {A : Option Addr} {c N : Nat} {q : List Pr} (h : PrAt W (.slice A q.length c) q) (hN : N ≤ q.length) : PrAt W (.slice A N c) (q.take N) := by
  obtain ⟨A', c', e, hcap, hc⟩ := h
  injection e with e1 e2 e3
  subst e1 e3
  have hl : (q.take N).length = N := by rw [List.length_take]; omega
  refine ⟨A, c, by rw [hl], by omega, fun h0 => ?_⟩
  obtain ⟨g, hA, hg, hx⟩ := hc (by omega)
  refine ⟨g, hA, hg, fun j x hj => hx j x ?_⟩
  have hpre : prRow q = prRow (q.take N) ++ prRow (q.drop N) := by
    have := List.flatMap_append (xs := q.take N) (ys := q.drop N) (f := prCells)
    rw [List.take_append_drop] at this; exact this
  rw [hpre, List.getElem?_append_left (by exact (List.getElem?_eq_some_iff.1 hj).1)]
  exact hj
set_option maxHeartbeats 1000000 in
theorem same_pr {w : World} {va vb : Value} {q : List Pr} (ha : PrAt w va q) (hb : PrAt w vb q) (hq : q.length ≤ 100000) :
    Calls Try.prog 18 #[va, vb] w (LightW w true) := by
  obtain ⟨A, ac, rfl, _, ha⟩ := ha
  obtain ⟨B, bc, rfl, _, hb⟩ := hb
  have HA := Lib.hid ha
  have HB := Lib.hid hb
  clear ha hb
  go_enter Try.func18, Try.ntmps18
  go_wp2
  go_loopw [13] (LiRel w q.length) (fun i _ => q.length - (intOf i).toNat)
  case atStart => exact ⟨0, by omega, rfl, Below.refl _ _⟩
  case round =>
    obtain ⟨j, hj, rfl, hbw⟩ := hrel
    by_cases hlt : j < q.length
    · obtain ⟨g, rfl, hg, hc⟩ := HA.out (by omega)
      obtain ⟨g', rfl, hg', hc'⟩ := HB.out (by omega)
      obtain ⟨p0, p1⟩ := prRow_at hlt
      have x0 := (hbw.cell (p := ⟨g, j * 2, none⟩) hg).trans (hc _ _ p0)
      have x1 := (hbw.cell (p := ⟨g, j * 2 + 1, none⟩) hg).trans (hc _ _ p1)
      have y0 := (hbw.cell (p := ⟨g', j * 2, none⟩) hg').trans (hc' _ _ p0)
      have y1 := (hbw.cell (p := ⟨g', j * 2 + 1, none⟩) hg').trans (hc' _ _ p1)
      clear hc hc' p0 p1
      generalize q[j] = y at *
      go_wp2
      go_region
      all_goals go_wp2
      all_goals exact ⟨⟨j + 1, by omega, by go_num, hbw.trans (below_drew _ _)⟩, by simp [intOf]; omega⟩
    · go_wp2
      go_ret
      exact ⟨rfl, hbw⟩
/-! what is there behind a Put -/
theorem has_put (P : List Pr) (k x k' : ByteArray) : hasL (putL P k x) k' = (decide (k = k') || hasL P k') := by
  by_cases hk : k = k'
  · subst hk
    rw [decide_eq_true rfl, Bool.true_or]
    unfold hasL putL
    rw [List.any_append, List.any_cons]; simp
  · rw [decide_eq_false hk, Bool.false_or]
    unfold hasL putL
    rw [Bool.eq_iff_iff, List.any_eq_true, List.any_eq_true]
    constructor
    · rintro ⟨y, hy, he⟩
      rcases List.mem_append.1 hy with hy | hy
      · exact ⟨y, (List.mem_filter.1 hy).1, he⟩
      · rcases List.mem_cons.1 hy with rfl | hy
        · exact absurd (by simpa using he) hk
        · exact ⟨y, (List.mem_filter.1 hy).1, he⟩
    · rintro ⟨y, hy, he⟩
      have hy2 : y.1 = k' := by simpa using he
      cases h1 : lt y.1 k with
      | true => exact ⟨y, List.mem_append_left _ (List.mem_filter.2 ⟨hy, h1⟩), he⟩
      | false =>
        have h2 : lt k y.1 = true := by
          cases h2 : lt k y.1 with
          | true => rfl
          | false => exact absurd ((lt_tri h2 h1).trans hy2) hk
        exact ⟨y, List.mem_append_right _ (List.mem_cons_of_mem _ (List.mem_filter.2 ⟨hy, h2⟩)), he⟩
theorem put_mem {P : List Pr} {k x : ByteArray} {y : Pr} (h : y ∈ putL P k x) : y ∈ P ∨ y = (k, x) := by
  unfold putL at h
  rcases List.mem_append.1 h with h | h
  · exact .inl (List.mem_filter.1 h).1
  · rcases List.mem_cons.1 h with h | h
    · exact .inr h
    · exact .inl (List.mem_filter.1 h).1
theorem put_len (P : List Pr) (k x : ByteArray) : (putL P k x).length ≤ P.length + 1 := by
  unfold putL
  rw [List.length_append, List.length_cons]
  have : (P.filter fun y => lt y.1 k).length + (P.filter fun y => lt k y.1).length ≤ P.length := by
    induction P with
    | nil => simp
    | cons y P ih =>
      cases h1 : lt y.1 k with
      | true => simp [h1, lt_anti h1]; omega
      | false => cases h2 : lt k y.1 <;> simp [h1, h2] <;> omega
  exact Nat.add_le_add_right this 1
/-- the list's heights are the map's -/
def Agree (P : List Pr) (hg : ByteArray → Nat) (mp : ByteArray → Option Nat) : Prop := ∀ k, hg k = (mp k).getD 0 ∧ hasL P k = (mp k).isSome
theorem agree_old {P : List Pr} {hg : ByteArray → Nat} {mp : ByteArray → Option Nat} (h : Agree P hg mp) {k x : ByteArray} {hh c : Nat} (hk : mp k = some c) : Agree (putL P k x) (putHg P k hh hg) mp := fun k' => by
  have hp : hasL P k = true := by rw [(h k).2, hk]; rfl
  refine ⟨?_, ?_⟩
  · unfold putHg; rw [if_pos hp]; exact (h k').1
  · rw [has_put]
    by_cases e : k = k'
    · subst e; rw [decide_eq_true rfl, Bool.true_or, hk]; rfl
    · rw [decide_eq_false e, Bool.false_or]; exact (h k').2
theorem agree_new {P : List Pr} {hg : ByteArray → Nat} {mp : ByteArray → Option Nat} (h : Agree P hg mp) {k x : ByteArray} {hh : Nat} (hk : mp k = none) : Agree (putL P k x) (putHg P k hh hg) (fun k' => if k' = k then some hh else mp k') := fun k' => by
  have hp : ¬ hasL P k = true := by rw [(h k).2, hk]; simp
  show _ = (if k' = k then some hh else mp k').getD 0 ∧ _ = (if k' = k then some hh else mp k').isSome
  unfold putHg
  rw [if_neg hp, has_put]
  by_cases e : k' = k
  · subst e; simp
  · have e2 : ¬ k = k' := fun h => e h.symm
    rw [if_neg e, if_neg e, decide_eq_false e2, Bool.false_or]
    exact h k'
end Go.Proofs.Ytnnjbofkkaonoaa.Sk
