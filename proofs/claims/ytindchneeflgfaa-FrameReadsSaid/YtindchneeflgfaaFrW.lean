/-
  The law FrameReads, walked. Conditions: as each theorem states.
-/
import Derived.Test.YtindchneeflgfaaFrV
import Derived.Test.YtindchneeflgfaaFrAwake
namespace Go.Proofs.Ytindchneeflgfaa.frameReads
open Go.RowKit Go.Shelf
open Go.Proofs.Ytindchneeflgfaa
open Vi
variable {w : World}

attribute [local go_sem] Oper.semAt_some

/-- The two boxes of the law: how many, and its answer's. -/
def Bx (w : World) (m : Nat) (v : Bool) (W : World) : Prop :=
  W.heap[w.heap.size]? = some (.cells #[.int .u8 (m : Int)] 5) ∧ W.heap[w.heap.size + 1]? = some (.cells #[.bool v] 4) ∧ Below w.heap.size w W
theorem bx_start (w : World) (m : Nat) : Hid (Bx w m false ((w.alloc (.cells #[.int .u8 (m : Int)] 5)).alloc (.cells #[.bool false] 4))) :=
  ⟨(Below.heap_alloc _ _ _ (by simp)).trans (heap_alloc_last w _), by
    have := heap_alloc_last (w.alloc (.cells #[.int .u8 (m : Int)] 5)) (.cells #[.bool false] 4)
    rwa [World.size_alloc] at this, ((Below.refl _ w).alloc (Nat.le_refl _) _).alloc (by simp) _⟩
theorem Bx.lt {w W : World} {m : Nat} {v : Bool} (h : Bx w m v W) : w.heap.size + 1 < W.heap.size := (Array.getElem?_eq_some_iff.1 h.2.1).1
theorem bx_on {w W W' : World} {m : Nat} {v : Bool} (h : Hid (Bx w m v W)) (hb : Below W.heap.size W W') : Hid (Bx w m v W') :=
  ⟨(hb.block _ (by have := h.out.lt; omega)).trans h.out.1, (hb.block _ h.out.lt).trans h.out.2.1, h.out.2.2.trans (hb.mono h.out.2.2.size)⟩
theorem bx_cells {w W : World} {m : Nat} {v : Bool} (h : Hid (Bx w m v W)) : W.cell? ⟨w.heap.size, 0, none⟩ = some (.int .u8 (m : Int)) ∧ W.cell? ⟨w.heap.size + 1, 0, none⟩ = some (.bool v) ∧ W.frozen? ⟨w.heap.size + 1, 0, none⟩ = false :=
  ⟨cell_in h.out.1 0 _ rfl, cell_in h.out.2.1 0 _ rfl, free_in h.out.2.1 0⟩
theorem ret_box {n : Nat} {w W : World} {tmps : Array Value} {v : Bool} {R : Ending → World → Prop} (ht : tmps[4]? = some (.pointer (some ⟨w.heap.size + 1, 0, none⟩))) (hc : W.cell? ⟨w.heap.size + 1, 0, none⟩ = some (.bool v)) (hR : R (.returned (.bool v)) W) :
    bodyPostM Fence.wide n Try.prog Try.f4 R Exit.ret { tmps := tmps, defers := [] } W := by
  refine ⟨.bool v, ?_, hR⟩
  have hres := Try.results4
  simp [results, hres, go_sem, ht, hc]
theorem ret_box_d {n : Nat} {w W : World} {tmps : Array Value} {v : Bool} {D : Nat} {R : Ending → World → Prop} (ht : tmps[4]? = some (.pointer (some ⟨w.heap.size + 1, 0, none⟩))) (hK : W.heap[D]? = some (.deferred (some []))) (hc : W.cell? ⟨w.heap.size + 1, 0, none⟩ = some (.bool v)) (hR : R (.returned (.bool v)) (W.putObj D (.deferred none))) :
    bodyPostM Fence.wide n Try.prog Try.f4 R Exit.ret { tmps := tmps, defers := [{ target := .collected D, args := #[] }] } W := by
  refine ⟨by simp, .inl ⟨_, _, rfl, run_takeDeferred hK, ⟨.bool v, ?_, hR⟩⟩⟩
  have hres := Try.results4
  have hc5 := cell_kept hc (grownBy_putObj' _ D (.deferred none)) (fun r e => by cases e; exact ⟨_, hK, rfl⟩)
  simp [results, hres, go_sem, ht, hc5]
/-- What a round leaves: all cells of the loop's start but its counter's. -/
def Keeps (W5 : World) (N : Nat) (W : World) : Prop := ∀ p v, W5.cell? p = some v → p.block ≠ N → W.cell? p = some v
theorem cell_other {W : World} {a p : Addr} (v : Value) (h : p.block ≠ a.block) : (W.setCell a v).cell? p = W.cell? p := by
  unfold World.cell?; rw [Below.heap_setCell _ _ _ _ h]
theorem cell_lt {w : World} {p : Addr} {v : Value} (h : w.cell? p = some v) : p.block < w.heap.size := by
  rcases Nat.lt_or_ge p.block w.heap.size with h' | h'
  · exact h'
  · unfold World.cell? at h
    rw [Array.getElem?_eq_none h'] at h
    simp at h
theorem pre_snoc {xs pre : List RecX} {x : RecX} (h : pre <+: xs) (hm : pre.length < xs.length) (hx : xs[pre.length] = x) : pre ++ [x] <+: xs := by
  obtain ⟨r, rfl⟩ := h
  match r with
  | [] => simp at hm
  | y :: r =>
    simp at hx
    subst hx
    exact ⟨r, by simp⟩
theorem pre_at {xs pre : List RecX} {x : RecX} (h : pre ++ [x] <+: xs) : ∃ hm : pre.length < xs.length, xs[pre.length] = x := by
  obtain ⟨r, rfl⟩ := h
  exact ⟨by simp, by simp⟩

/-- A row of records in memory. -/
def RRow (W : World) (B : Nat) (E : Option Addr) (rs : List RecX) : Prop :=
  0 < rs.length → ∃ g, E = some ⟨g, 0, none⟩ ∧ B ≤ g ∧ ∀ i (hi : i < rs.length), W.cell? ⟨g, i * 2, none⟩ = some (.string (bs rs[i].1)) ∧ W.cell? ⟨g, i * 2 + 1, none⟩ = some (.int .i64 ((rs[i].2 : Nat) : Int))
theorem owns_recs {W : World} {B : Nat} {v : Value} {rs : List RecX} (h : W.ownsRow B 32 2 v rs.length (rCells rs)) : ∃ E cap, v = .slice E rs.length cap ∧ RRow W B E rs := by
  rcases h.2 with ⟨rfl, h0⟩ | ⟨g, cap, cur, rfl, hb, hg, _⟩
  · exact ⟨none, 0, by rw [h0], fun h1 => by omega⟩
  · refine ⟨some ⟨g, 0, none⟩, cap, rfl, fun _ => ⟨g, rfl, hb, fun i hi => ?_⟩⟩
    obtain ⟨c1, c2⟩ := rCells_at rs i hi
    exact ⟨(h.cellAt (i * 2) (by omega)).trans c1, (h.cellAt (i * 2 + 1) (by omega)).trans c2⟩
theorem recs_few (L : List UInt8) : ∀ (p n : Nat), L.length - p ≤ n → (recs L p).length ≤ n := by
  intro p n
  induction n generalizing p with
  | zero =>
    intro h
    cases e : rread L p with
    | none => rw [recs_none e]; simp
    | some x =>
      obtain ⟨s, q⟩ := x
      have := rec_bd L _ false p [] s q (Nat.le_refl _) e
      omega
  | succ n ih =>
    intro h
    cases e : rread L p with
    | none => rw [recs_none e]; simp
    | some x =>
      obtain ⟨s, q⟩ := x
      have hb := rec_bd L _ false p [] s q (Nat.le_refl _) e
      rw [recs_some e, List.length_cons]
      have := ih q (by omega)
      omega
set_option maxRecDepth 100000 in
set_option maxHeartbeats 4000000 in
theorem long_in (n : Nat) (hn : 4 ≤ n) (L : List UInt8) (hL : 4000 < L.length) (hL2 : L.length ≤ 9223372036854775807) (m : Nat) (w : World) :
    CallsIn Fence.wide n Try.prog 4 #[.string (bs L), .int .u8 (m : Int)] w fun e W' => e = .returned (.bool true) ∧ Below w.heap.size w W' := by
  have hbz := bs_size
  have h1 : 1 ≤ n := by omega
  refine callsIn_of_wp_marks Try.func4 rfl trivial ?_ rfl
  simp only [Try.ntmps4, List.size_toArray, List.length_cons, List.length_nil, Nat.reduceAdd, Nat.reduceSub, Array.replicate_succ, Array.replicate_zero, List.push_toArray, List.append_toArray, List.nil_append, List.cons_append]
  gi_wp2_with (first | (refine ⟨trivial, ?_⟩; gi_at_call 6; refine (callsIn_wide.2 (awake_any _)).mono ?_; rintro e w1 ⟨rfl, hb1⟩; have B1 := bx_on (bx_start w m) hb1; obtain ⟨hc0, hc1, hf1⟩ := bx_cells B1))
  refine ret_box rfl (World.cell?_setCell_same' _ _ _ (by rw [hc1]; rfl)) ⟨rfl, B1.out.2.2.setCell (p := ⟨w.heap.size + 1, 0, none⟩) (by simp) _⟩
set_option maxRecDepth 100000 in
set_option maxHeartbeats 4000000 in
theorem main_in (n : Nat) (hn : 4 ≤ n) (L : List UInt8) (hL : L.length ≤ 4000) (m : Nat) (hm8 : m < 256) (w : World) :
    CallsIn Fence.wide n Try.prog 4 #[.string (bs L), .int .u8 (m : Int)] w fun e W' => e = .returned (.bool true) ∧ Below w.heap.size w W' := by
  have hbz := bs_size
  have h1 : 1 ≤ n := by omega
  have HRR : Hid (∀ W, Calls Try.prog 10 #[.string (bs L)] W (RfP W L)) := fun W => rrecs_any L (by omega) W
  obtain ⟨rs, hrs⟩ : ∃ rs, rs = recs L 0 := ⟨_, rfl⟩
  have HRS := Lib.hid hrs
  clear hrs
  refine callsIn_of_wp_marks Try.func4 rfl trivial ?_ rfl
  simp only [Try.ntmps4, List.size_toArray, List.length_cons, List.length_nil, Nat.reduceAdd, Nat.reduceSub, Array.replicate_succ, Array.replicate_zero, List.push_toArray, List.append_toArray, List.nil_append, List.cons_append]
  gi_wp2_with (first
    | (refine ⟨trivial, ?_⟩; gi_at_call 6; refine (callsIn_wide.2 (awake_any _)).mono ?_; rintro e w1 ⟨rfl, hb1⟩; have B1 := bx_on (bx_start w m) hb1; obtain ⟨hc0, hc1, hf1⟩ := bx_cells B1)
    | (refine ⟨trivial, ?_⟩; gi_at_call 10; (with_reducible refine (callsIn_wide.2 (HRR.out _)).mono ?_); rintro e w2 hP; obtain ⟨⟨v, rfl, hown⟩, hb2⟩ := hP; rw [← HRS.out] at hown; obtain ⟨E, cap, rfl, hE⟩ := owns_recs hown; have HEr := Lib.hid hE; clear hE hown; have B2 := bx_on B1 hb2)
    | (refine ⟨trivial, ?_⟩; gi_at_call 11; refine (callsIn_wide.2 (records_any _ _)).mono ?_; rintro e w3 ⟨rfl, rfl⟩))
  have hBW : Below w2.heap.size w2 (((w2.alloc (.cells #[.slice E rs.length cap] 26)).alloc (.cells #[.int .i64 0] 3)).alloc (.cells #[.string (bs L)] 9)) := (((Below.refl _ w2).alloc (Nat.le_refl _) _).alloc (by simp) _).alloc (by simp; omega) _
  have B5 := bx_on B2 hBW
  have hl2 := B2.out.lt
  have hbox : ((((w2.alloc (.cells #[.slice E rs.length cap] 26)).alloc (.cells #[.int .i64 0] 3)).alloc (.cells #[.string (bs L)] 9))).heap[w2.heap.size + 1 + 1]? = some (.cells #[.string (bs L)] 9) := by
    have := heap_alloc_last ((w2.alloc (.cells #[.slice E rs.length cap] 26)).alloc (.cells #[.int .i64 0] 3)) (.cells #[.string (bs L)] 9)
    simp only [World.size_alloc] at this
    exact this
  have hn0 : ((((w2.alloc (.cells #[.slice E rs.length cap] 26)).alloc (.cells #[.int .i64 0] 3)).alloc (.cells #[.string (bs L)] 9))).heap[w2.heap.size + 1]? = some (.cells #[.int .i64 0] 3) := (Below.heap_alloc _ _ _ (by simp)).trans (by
    have := heap_alloc_last (w2.alloc (.cells #[.slice E rs.length cap] 26)) (.cells #[.int .i64 0] 3)
    simp only [World.size_alloc] at this
    exact this)
  have he0 : ((((w2.alloc (.cells #[.slice E rs.length cap] 26)).alloc (.cells #[.int .i64 0] 3)).alloc (.cells #[.string (bs L)] 9))).heap[w2.heap.size]? = some (.cells #[.slice E rs.length cap] 26) := (Below.heap_alloc _ _ _ (by simp; omega)).trans ((Below.heap_alloc _ _ _ (by simp)).trans (heap_alloc_last w2 _))
  have F6 := cell_in hn0 0 _ rfl
  have F6f := free_in hn0 0
  have F3 := cell_in he0 0 _ rfl
  obtain ⟨F1, F2, F2f⟩ := bx_cells B5
  have F5 : Hid (∀ i (h : i < rs.length), ∃ g, E = some ⟨g, 0, none⟩ ∧ ((((w2.alloc (.cells #[.slice E rs.length cap] 26)).alloc (.cells #[.int .i64 0] 3)).alloc (.cells #[.string (bs L)] 9))).cell? ⟨g, i * 2, none⟩ = some (.string (bs rs[i].1)) ∧ ((((w2.alloc (.cells #[.slice E rs.length cap] 26)).alloc (.cells #[.int .i64 0] 3)).alloc (.cells #[.string (bs L)] 9))).cell? ⟨g, i * 2 + 1, none⟩ = some (.int .i64 ((rs[i].2 : Nat) : Int)) ∧ g ≠ w2.heap.size + 1) := fun i h => by
    obtain ⟨g, e, _, hc⟩ := HEr.out (by omega)
    obtain ⟨c1, c2⟩ := hc i h
    have hlt := cell_lt c1
    have hlt' : g < w2.heap.size := hlt
    exact ⟨g, e, (hBW.cell hlt).trans c1, (hBW.cell (p := ⟨g, i * 2 + 1, none⟩) hlt').trans c2, by omega⟩
  have hB5 : Hid (Below w.heap.size w ((((w2.alloc (.cells #[.slice E rs.length cap] 26)).alloc (.cells #[.int .i64 0] 3)).alloc (.cells #[.string (bs L)] 9)))) := B5.out.2.2
  have hs5 : ((((w2.alloc (.cells #[.slice E rs.length cap] 26)).alloc (.cells #[.int .i64 0] 3)).alloc (.cells #[.string (bs L)] 9))).heap.size = w2.heap.size + 3 := by simp
  generalize hW5 : (((w2.alloc (.cells #[.slice E rs.length cap] 26)).alloc (.cells #[.int .i64 0] 3)).alloc (.cells #[.string (bs L)] 9)) = W5 at *
  have hrl : rs.length ≤ 1000000 := by
    have h7 := recs_few L 0 (L.length) (by omega)
    rw [← HRS.out] at h7; omega
  refine wpIn_rangeFunc_ownF rfl h1 (gf := 24) (lb := #[.pointer (some ⟨w2.heap.size + 1 + 1, 0, none⟩)]) rfl trivial (enters_of Try.func24 (by kernel_rfl) rfl)
    (recs_stops (n - 1) (by omega) (w2.heap.size + 1 + 1) L (by omega) _ hbox) keepB_t (keepB_b (by omega)) (Below.refl _ _) (fun _ => rfl)
    (fun pre W => (Keeps W5 (w2.heap.size + 1) W ∧ W.cell? ⟨w2.heap.size + 1, 0, none⟩ = some (.int .i64 (pre.length : Nat)) ∧ W.frozen? ⟨w2.heap.size + 1, 0, none⟩ = false ∧ W.frozen? ⟨w.heap.size + 1, 0, none⟩ = false ∧ pre <+: rs) ∧ Below w.heap.size w W)
    (fun cd pre W => (cd = .ret ∧ (¬ pre <+: rs ∨ W.cell? ⟨w.heap.size + 1, 0, none⟩ = some (.bool true))) ∧ Below w.heap.size w W)
    (OwnFrom.and (Own.from (fun s A B row hs hg hr => ⟨fun p v h hne => cell_kept (hs.1 p v h hne) hg hr, cell_kept hs.2.1 hg hr, (frozen_kept hs.2.1 hg hr).trans hs.2.2.1, (frozen_kept (hs.1 _ _ F2 (by show w.heap.size + 1 ≠ w2.heap.size + 1; omega)) hg hr).trans hs.2.2.2.1, hs.2.2.2.2⟩) _) (ownFrom_below (Nat.le_refl _) (by omega)))
    (fun cd => OwnFrom.and (Own.from (fun s A B row hs hg hr => ⟨hs.1, hs.2.imp id (fun h => cell_kept h hg hr)⟩) _) (ownFrom_below (Nat.le_refl _) (by omega)))
    ⟨⟨fun p v h _ => h, F6, F6f, F2f, ⟨_, rfl⟩⟩, hB5.out⟩
    (fun x => { tmps := #[Value.string (bs L), Value.int IntKind.u8 (m : Int), undef, Value.pointer (some ⟨w.heap.size, 0, none⟩), Value.pointer (some ⟨w.heap.size + 1, 0, none⟩), Value.pointer (some ⟨w2.heap.size, 0, none⟩), Value.pointer (some ⟨w2.heap.size + 1, 0, none⟩), .string (bs x.1), .int .i64 (x.2 : Nat), undef, Value.bool true, Value.bool false, Value.string (bs L), Value.int IntKind.i64 (L.length : Int), Value.bool (decide (4000 < (L.length : Int))), Value.string (bs L), Value.slice E rs.length cap, Value.string (bs L), Value.func (.func 24) #[] #[Value.pointer (some ⟨w2.heap.size + 1 + 1, 0, none⟩)], .string (bs x.1), .int .i64 (x.2 : Nat), undef, undef, undef, undef, undef, undef, undef, undef, undef, undef, undef, undef, undef, undef, undef, undef, undef, undef, undef, undef, undef, undef, undef, undef, undef, undef, undef, undef, undef, undef, undef, undef, undef, undef, undef, undef, undef, undef, undef, undef, undef, undef, undef, undef, undef, undef, undef, undef], defers := [] }) ?assign ?body ?done ?stop
  case assign =>
    intro l' x W K hK
    gi_wp2
    exact hK
  case body =>
    rintro l' pre x W ⟨⟨hk, hcn, hfn, hfr, hpre⟩, hB⟩ _
    have g0 := hk _ _ F1 (by show w.heap.size ≠ w2.heap.size + 1; omega)
    have g2 := hk _ _ F2 (by show w.heap.size + 1 ≠ w2.heap.size + 1; omega)
    have g3 := hk _ _ F3 (by show w2.heap.size ≠ w2.heap.size + 1; omega)
    have hpl := hpre.length_le
    have hbl := bs_list
    by_cases hm : pre.length < rs.length
    · obtain ⟨g, rfl, hx, hy, hgn⟩ := F5.out pre.length hm
      have y0 := hk _ _ hx hgn
      have z0 := hk _ _ hy hgn
      have hm2 : ¬ rs.length ≤ pre.length := by omega
      by_cases e1 : x.1 = rs[pre.length].1
      · by_cases e2 : x.2 = rs[pre.length].2
        · have HP := Lib.hid (pre_snoc hpre hm (x := x) (Prod.ext e1.symm e2.symm))
          have q1 : (x.1 == rs[pre.length].1) = true := by rw [e1]; simp
          have q2 : ((x.2 : Int) != (rs[pre.length].2 : Nat)) = false := by rw [e2]; simp
          generalize rs[pre.length].1 = lm at y0 q1
          generalize rs[pre.length].2 = em at z0 q2
          clear hx hy e1 e2 hpre
          by_cases hmm : pre.length + 1 = m
          · have q3 : ((pre.length : Int) + 1 == (m : Int)) = true := by rw [beq_iff_eq]; omega
            have HMM := Lib.hid hmm
            clear hmm
            gi_wp2
            exact ⟨(KeepsOthers.setCell _ _ _).trans (KeepsOthers.setCell _ _ _), ⟨rfl, .inr (World.cell?_setCell_same' _ _ _ (by rw [cell_other _ (by show w.heap.size + 1 ≠ w2.heap.size + 1; omega), g2]; rfl))⟩, (hB.setCell (p := ⟨w2.heap.size + 1, 0, none⟩) (by show w.heap.size ≤ w2.heap.size + 1; omega) _).setCell (p := ⟨w.heap.size + 1, 0, none⟩) (by simp) _⟩
          · have q3 : ((pre.length : Int) + 1 == (m : Int)) = false := by rw [beq_eq_false_iff_ne]; omega
            have HMM := Lib.hid hmm
            clear hmm
            gi_wp2
            exact ⟨KeepsOthers.setCell _ _ _, Below.heap_setCell _ _ _ _ (by show w2.heap.size + 1 + 1 ≠ w2.heap.size + 1; omega), ⟨fun p v h hne => (cell_other _ hne).trans (hk p v h hne), by
              have hq := World.cell?_setCell_same' W ⟨w2.heap.size + 1, 0, none⟩ (.int .i64 ((pre.length : Int) + 1)) (by rw [hcn]; rfl)
              rw [hq]; simp, by rw [World.frozen?_setCell]; exact hfn, by rw [World.frozen?_setCell]; exact hfr, HP.out⟩, hB.setCell (p := ⟨w2.heap.size + 1, 0, none⟩) (by show w.heap.size ≤ w2.heap.size + 1; omega) _⟩
        · have HP : Hid (¬ pre ++ [x] <+: rs) := fun h => by
            obtain ⟨_, h2'⟩ := pre_at h
            exact e2 (by rw [← h2'])
          have q1 : (x.1 == rs[pre.length].1) = true := by rw [e1]; simp
          have q2 : ((x.2 : Int) != (rs[pre.length].2 : Nat)) = true := by simp; omega
          generalize rs[pre.length].1 = lm at y0 q1
          generalize rs[pre.length].2 = em at z0 q2
          clear hx hy e1 e2 hpre
          gi_wp2
          exact ⟨KeepsOthers.setCell _ _ _, ⟨rfl, .inl HP.out⟩, hB.setCell (p := ⟨w.heap.size + 1, 0, none⟩) (by simp) _⟩
      · have HP : Hid (¬ pre ++ [x] <+: rs) := fun h => by
          obtain ⟨_, h2'⟩ := pre_at h
          exact e1 (by rw [← h2'])
        have q1 : (x.1 == rs[pre.length].1) = false := by simpa using e1
        generalize rs[pre.length].1 = lm at y0 q1
        generalize rs[pre.length].2 = em at z0
        clear hx hy e1 hpre
        gi_wp2
        exact ⟨KeepsOthers.setCell _ _ _, ⟨rfl, .inl HP.out⟩, hB.setCell (p := ⟨w.heap.size + 1, 0, none⟩) (by simp) _⟩
    · have HP : Hid (¬ pre ++ [x] <+: rs) := fun h => by
        obtain ⟨h1', _⟩ := pre_at h
        omega
      have hm2 : rs.length ≤ pre.length := by omega
      gi_wp2
      exact ⟨KeepsOthers.setCell _ _ _, ⟨rfl, .inl HP.out⟩, hB.setCell (p := ⟨w.heap.size + 1, 0, none⟩) (by simp) _⟩
  case done =>
    rintro D ys W hD rfl ⟨⟨hk, hcn, hfn, hfr, hpre⟩, hB⟩ hK
    have g2 := hk _ _ F2 (by show w.heap.size + 1 ≠ w2.heap.size + 1; omega)
    have g3 := hk _ _ F3 (by show w2.heap.size ≠ w2.heap.size + 1; omega)
    rw [← HRS.out] at hcn
    have WH : Hid (∀ W, Calls Try.prog 12 #[.string (bs L)] W fun e w' => e = .returned (.int .i64 (endOf rs : Nat)) ∧ Below W.heap.size W w') := fun W => by
      have := whole_any L (by omega) W
      rw [← HRS.out] at this
      exact this
    clear hpre
    by_cases h0 : 0 < rs.length
    · obtain ⟨g, rfl, hx, hy, hgn⟩ := F5.out (rs.length - 1) (by omega)
      have z0 := hk _ _ hy hgn
      have hend : endOf rs = (rs[rs.length - 1]'(by omega)).2 := by
        unfold endOf
        rw [List.getLast?_eq_getElem?, List.getElem?_eq_getElem (by omega)]; rfl
      rw [hend] at WH
      clear hx hy hend
      generalize (rs[rs.length - 1]'(by omega)).2 = em at z0 WH
      have b1 : (0 : Int) ≤ (rs.length : Int) - 1 := by omega
      have b2 : (rs.length : Int) - 1 < (rs.length : Int) := by omega
      have b3 : ((rs.length : Int) - 1).toNat = rs.length - 1 := by omega
      gi_wp2_with (first | (refine ⟨trivial, ?_⟩; gi_at_call 12; (with_reducible refine (callsIn_wide.2 (WH.out _)).mono ?_); rintro e w6 ⟨rfl, hb6⟩; have c6 : w6.cell? ⟨w.heap.size + 1, 0, none⟩ = some (.bool false) := (hb6.cell (cell_lt g2)).trans g2; have f6 : w6.frozen? ⟨w.heap.size + 1, 0, none⟩ = false := (frozen_kept g2 (grown_below hb6 none) (fun r e => by cases e)).trans hfr))
      have hK6 : w6.heap[D]? = some (.deferred (some [])) := (hb6.block D (Array.getElem?_eq_some_iff.1 hK).1).trans hK
      have hK7 := (KeepsOthers.setCell w6 ⟨w.heap.size + 1, 0, none⟩ (.bool true)).same D _ hK6 rfl
      have hB6 := hB.trans (hb6.mono hB.size)
      refine ret_box_d rfl hK7 (World.cell?_setCell_same' _ _ _ (by rw [c6]; rfl)) ⟨rfl, ?_⟩
      exact (hB6.setCell (p := ⟨w.heap.size + 1, 0, none⟩) (by simp) _).trans (belowK_b (w := w) (Nat.le_refl _) _ D _ _ (by omega) hK7 rfl rfl)
    · have hend : endOf rs = 0 := by
        have : rs = [] := List.eq_nil_of_length_eq_zero (by omega)
        rw [this]; rfl
      rw [hend] at WH
      clear hend
      have hr0 : rs.length = 0 := by omega
      gi_wp2_with (first | (refine ⟨trivial, ?_⟩; gi_at_call 12; (with_reducible refine (callsIn_wide.2 (WH.out _)).mono ?_); rintro e w6 ⟨rfl, hb6⟩; have c6 : w6.cell? ⟨w.heap.size + 1, 0, none⟩ = some (.bool false) := (hb6.cell (cell_lt g2)).trans g2; have f6 : w6.frozen? ⟨w.heap.size + 1, 0, none⟩ = false := (frozen_kept g2 (grown_below hb6 none) (fun r e => by cases e)).trans hfr))
      have hK6 : w6.heap[D]? = some (.deferred (some [])) := (hb6.block D (Array.getElem?_eq_some_iff.1 hK).1).trans hK
      have hK7 := (KeepsOthers.setCell w6 ⟨w.heap.size + 1, 0, none⟩ (.bool true)).same D _ hK6 rfl
      have hB6 := hB.trans (hb6.mono hB.size)
      refine ret_box_d rfl hK7 (World.cell?_setCell_same' _ _ _ (by rw [c6]; rfl)) ⟨rfl, ?_⟩
      exact (hB6.setCell (p := ⟨w.heap.size + 1, 0, none⟩) (by simp) _).trans (belowK_b (w := w) (Nat.le_refl _) _ D _ _ (by omega) hK7 rfl rfl)
  case stop =>
    rintro D cd pre W hD hpre ⟨⟨rfl, hor⟩, hB⟩ hK
    rw [← HRS.out] at hpre
    rcases hor with hn' | hc
    · exact absurd hpre hn'
    · gi_wp2
      refine ret_box_d rfl hK hc ⟨rfl, ?_⟩
      exact hB.trans (belowK_b (w := w) (Nat.le_refl _) _ D _ _ (by omega) hK rfl rfl)
end Go.Proofs.Ytindchneeflgfaa.frameReads
