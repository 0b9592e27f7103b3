/-
  The document's With for rows of entries, walked; what it comes to. Conditions: as each theorem states.
-/
import Derived.Test.YtadejeoiffaimaaGreatDoorMeS
namespace Go.Proofs.YtadejeoiffaimaaGreatDoor.Me
open Go.RowKit
open Vi

def differs (x e : En) : Bool := !(decide (x.key = e.key) && decide (x.seq = e.seq) && decide (x.kind = e.kind))
def wGo (e : En) : List En → Bool → List En → List En
  | [], d, o => if d = true then o else o ++ [e]
  | x :: l, d, o => wGo e l (d || !ahead x e) ((if (!d && !ahead x e) = true then o ++ [e] else o) ++ (if differs x e = true then [x] else []))
theorem ahead_trans {x y z : En} (hx : x.good) (hy : y.good) (hz : z.good) (h1 : ahead x y = true) (h2 : ahead y z = true) : ahead x z = true := by
  rw [← lt_good hx hy.wf] at h1
  rw [← lt_good hy hz.wf] at h2
  rw [← lt_good hx hz.wf]
  exact Sk.lt_trans h1 h2
theorem differs_same (x e : En) : differs x e = !same3 x e := by
  cases h : same3 x e with
  | true =>
    obtain ⟨h1, h2, h3⟩ := same3_eq h
    simp [differs, h1, h2, h3]
  | false =>
    cases hd : differs x e with
    | true => rfl
    | false =>
      have hk : x.key = e.key ∧ x.seq = e.seq ∧ x.kind = e.kind := by simpa [differs, and_assoc] using hd
      obtain ⟨h1, h2, h3⟩ := hk
      have ha : ahead x e = false := by unfold ahead; rw [if_pos h1, if_pos h2]; exact decide_eq_false (by omega)
      have hb : ahead e x = false := by unfold ahead; rw [if_pos h1.symm, if_pos h2.symm]; exact decide_eq_false (by omega)
      rw [same3, ha, hb] at h; cases h
theorem w_rest (e : En) : ∀ (l o : List En), wGo e l true o = o ++ l.filter (fun x => differs x e)
  | [], o => by simp [wGo]
  | x :: l, o => by
    rw [wGo, Bool.true_or, Bool.not_true, Bool.false_and, if_neg (by decide), w_rest e l, List.filter_cons]
    cases differs x e <;> simp
theorem w_all {e : En} (he : e.good) : ∀ (l o : List En), (∀ x ∈ l, x.good) → l.Pairwise (fun x y => ahead x y = true) → wGo e l false o = o ++ addE l e
  | [], o, _, _ => by simp [wGo, addE]
  | x :: l, o, hg, hp => by
    have hx := hg x (by simp)
    have hl := fun y hy => hg y (List.mem_cons_of_mem x hy)
    obtain ⟨hp1, hp2⟩ := List.pairwise_cons.1 hp
    rw [wGo, Bool.false_or, Bool.not_false, Bool.true_and]
    cases ha : ahead x e with
    | true =>
      have hb := ahead_asym ha
      have hd : differs x e = true := by rw [differs_same, same3, ha]; rfl
      rw [hd]
      simp only [Bool.not_true, Bool.false_eq_true, if_false, if_true]
      rw [w_all he l _ hl hp2]
      unfold addE
      rw [List.filter_cons, List.filter_cons]
      simp [ha, hb]
    | false =>
      simp only [Bool.not_false, if_true]
      rw [w_rest]
      have h1 : ∀ y ∈ l, ahead y e = false := fun y hy => by
        cases h : ahead y e with
        | false => rfl
        | true => rw [ahead_trans hx (hl y hy) he (hp1 y hy) h] at ha; cases ha
      have h2 : ∀ y ∈ l, differs y e = ahead e y := fun y hy => by rw [differs_same, same3, h1 y hy]; cases ahead e y <;> rfl
      have h3 : differs x e = ahead e x := by rw [differs_same, same3, ha]; cases ahead e x <;> rfl
      unfold addE
      rw [List.filter_cons, List.filter_cons, Sk.filter_none (fun y hy => h1 y hy), List.filter_congr (fun y hy => h2 y hy), h3]
      cases hx2 : ahead e x <;> simp [ha]
theorem pw_of_srt {E : List En} (hg : ∀ x ∈ E, x.good) (hs : Sk.Srt (E.map pr)) : E.Pairwise (fun x y => ahead x y = true) := by
  unfold Sk.Srt at hs
  rw [List.pairwise_map] at hs
  exact hs.imp_of_mem (fun {a b} ha hb h => by rw [← lt_good (hg a ha) (hg b hb).wf]; exact h)
theorem with_add {E : List En} {e : En} (hg : ∀ x ∈ E, x.good) (he : e.good) (hs : Sk.Srt (E.map pr)) : wGo e E false [] = addE E e := by
  rw [w_all he E [] hg (pw_of_srt hg hs)]; rfl
/-- With under way -/
structure WP (w : World) (e : En) (O : List En) (v : Value) (W : World) : Prop where
  own : W.ownsRow (w.heap.size + 1) 30 4 v O.length (eRow O)
  below : Below (w.heap.size + 1) (w.alloc (.cells #[.string e.key, .int .u64 e.seq, .int .i64 e.kind, .string e.val] 30 (0, 0))) W
section
variable {w wr W' : World} {e : En} {O O' : List En} {v v' : Value}
theorem wp_box (h : WP w e O v wr) : wr.heap[w.heap.size]? = some (.cells #[.string e.key, .int .u64 e.seq, .int .i64 e.kind, .string e.val] 30 (0, 0)) := (h.below.block _ (by omega)).trans (heap_alloc_new w _)
theorem wp_size (h : WP w e O v wr) : w.heap.size + 1 ≤ wr.heap.size := by have := h.below.size; simpa using this
theorem wp_alloc (h : WP w e O v wr) (o : Obj) : WP w e O v (wr.alloc o) := ⟨h.own.alloc _, h.below.alloc (wp_size h) _⟩
theorem wp_grown (h : WP w e O v wr) (hg : wr.grownBy W' v.ownBlock) (ho : W'.ownsRow (w.heap.size + 1) 30 4 v' O'.length (eRow O')) : WP w e O' v' W' :=
  ⟨ho, h.below.trans ⟨hg.os, hg.tape, hg.output, hg.size, fun k hk => hg.block k (Nat.lt_of_lt_of_le hk (wp_size h)) fun e => by have := (h.own.lt k e.symm).1; omega⟩⟩
theorem wp_below (h : WP w e O v wr) (hb : Below wr.heap.size wr W') : WP w e O v W' :=
  ⟨Sk.ownsRow_kept h.own (fun g hg => hb.block g (h.own.lt g hg).2), h.below.trans (hb.mono (wp_size h))⟩
theorem wp_end (h : WP w e O v wr) : Below w.heap.size w wr := ((Below.refl _ w).alloc (Nat.le_refl _) _).trans (h.below.mono (by omega))
theorem wp_keep (h : WP w e O v wr) {W1 : World} {o o2 : Obj} (hx : W1.heap[wr.heap.size]? = some o) (hg : (W1.alloc o2).grownBy W' v.ownBlock) : W'.heap[wr.heap.size]? = some o := by
  have hl := (Array.getElem?_eq_some_iff.1 hx).1
  rw [hg.block _ (by simp; omega) (fun e => by have := (h.own.lt _ e.symm).2; omega)]
  exact old_alloc hx o2
end
def WiP (w : World) (O : List En) (e : Ending) (w' : World) : Prop := ∃ v, e = .returned v ∧ w'.ownsRow (w.heap.size + 1) 30 4 v O.length (eRow O) ∧ Below w.heap.size w w'
theorem w_step (e y : En) (l : List En) (d a df : Bool) (o : List En) (ha : d = false → ahead y e = a) (hd : differs y e = df) : wGo e (y :: l) d o = wGo e l (d || !a) ((if (!d && !a) = true then o ++ [e] else o) ++ (if df = true then [y] else [])) := by
  rw [wGo, hd]
  cases d with
  | true => rfl
  | false => rw [ha rfl]
set_option maxRecDepth 100000 in
set_option maxHeartbeats 4000000 in
theorem rwith_any {w : World} {v : Value} {q : List En} (h : EAt w v q) (e : En) (hq : q.length ≤ 1000) :
    Calls Tryz.prog 25 #[v, .agg #[.string e.key, .int .u64 e.seq, .int .i64 e.kind, .string e.val]] w (WiP w (wGo e q false [])) := by
  obtain ⟨A, c, rfl, _, hc⟩ := h
  have HC := Lib.hid hc
  clear hc
  obtain ⟨i0, hi, hz0, hz1, hz2⟩ := info_parts infoE
  have HI := Lib.hid (And.intro hi (And.intro hz0 (And.intro hz1 hz2)))
  clear hi hz0 hz1 hz2
  obtain ⟨ek, es, ed, ev⟩ := e
  have hinf := ent_info
  go_enter Tryz.func25, Tryz.ntmps25
  go_wp2
  go_loopw [5, 6, 11] (fun v d i wr => ∃ (j : Nat) (O : List En) (b : Bool), j ≤ q.length ∧ wGo ⟨ek, es, ed, ev⟩ (q.drop j) b O = wGo ⟨ek, es, ed, ev⟩ q false [] ∧ O.length ≤ j + 1 ∧ (b = false → O.length ≤ j) ∧ i = .int .i64 j ∧ d = .bool b ∧ WP w ⟨ek, es, ed, ev⟩ O v wr) (fun _ _ i _ => q.length - (intOf i).toNat)
  case atStart => exact ⟨0, [], false, by omega, rfl, by simp, by simp, rfl, rfl, World.ownsRow_nil _ _ _ _, Below.refl _ _⟩
  case round =>
    obtain ⟨j, O, b, hj, hR, hO1, hO2, rfl, rfl, P⟩ := hrel
    replace P := Lib.hid P
    obtain ⟨p0, p1, p2, p3⟩ := box4 (wp_box P.out)
    have hsz := wp_size P.out
    by_cases hlt : j < q.length
    · obtain ⟨g0, rfl, hg0, hx⟩ := HC.out (by omega)
      have hb := wp_end P.out
      obtain ⟨y0, y1, y2, y3⟩ := e_cells (fun j x hjx => (hb.cell (p := ⟨g0, j, none⟩) hg0).trans (hx j x hjx)) hlt
      rw [List.drop_eq_getElem_cons hlt] at hR
      clear hx hb
      generalize q[j] = y at *
      obtain ⟨yk, ys, yd, yv⟩ := y
      simp only at y0 y1 y2 y3 p0 p1 p2 p3
      by_cases hk : yk = ek
      · subst hk
        by_cases hs : ys = es
        · subst hs
          by_cases hd : yd = ed
          · subst hd
            have hdf : differs ⟨yk, ys, yd, yv⟩ ⟨yk, ys, yd, ev⟩ = false := by simp [differs]
            have hq1 : (yk.toList == yk.toList) = true := by simp
            obtain ⟨z0, z1, z2, z3⟩ := box4 (e_box (W := wr) ⟨yk, ys, yd, yv⟩ 30)
            obtain ⟨s0, s1, s2, s3⟩ := box4 (wp_box (wp_alloc P.out (.cells #[.string yk, .int .u64 ys, .int .i64 yd, .string yv] 30)))
            simp only at z0 z1 z2 z3 s0 s1 s2 s3
            cases b with
            | true =>
              have HR : Hid (wGo ⟨yk, ys, yd, ev⟩ (q.drop (j + 1)) true (O ++ []) = wGo ⟨yk, ys, yd, ev⟩ q false []) := (w_step ⟨yk, ys, yd, ev⟩ ⟨yk, ys, yd, yv⟩ (q.drop (j + 1)) true true false O (fun h => by cases h) hdf).symm.trans hR
              clear hR hdf
              go_wp2
              go_roundw
              case rel => exact ⟨j + 1, O, true, by omega, (by have h := HR.out; rw [List.append_nil] at h; exact h), by omega, by simp, by go_num, rfl, wp_alloc P.out _⟩
              case measure => simp [intOf]; omega
            | false =>
              have hOj := hO2 rfl
              cases hA : ahead ⟨yk, ys, yd, yv⟩ ⟨yk, ys, yd, ev⟩ with
              | true =>
                exact absurd hA (by unfold ahead; rw [if_pos rfl, if_pos rfl]; simp)
              | false =>
                have AH : Hid (∀ W, Calls Tryz.prog 33 #[.agg #[.string yk, .int .u64 ys, .int .i64 yd, .string yv], .agg #[.string yk, .int .u64 ys, .int .i64 yd, .string ev]] W fun r w' => r = .returned (.bool false) ∧ Below W.heap.size W w') := fun W => by have := rahead_any ⟨yk, ys, yd, yv⟩ ⟨yk, ys, yd, ev⟩ W; rw [hA] at this; exact this
                have HR : Hid (wGo ⟨yk, ys, yd, ev⟩ (q.drop (j + 1)) true (O ++ [(⟨yk, ys, yd, ev⟩ : En)] ++ []) = wGo ⟨yk, ys, yd, ev⟩ q false []) := (w_step ⟨yk, ys, yd, ev⟩ ⟨yk, ys, yd, yv⟩ (q.drop (j + 1)) false false false O (fun _ => hA) hdf).symm.trans hR
                clear hR hdf hA
                go_wp2_with (first
                  | (go_at_call 33; (with_reducible refine (AH.out _).mono ?_); rintro r w1 ⟨rfl, b1⟩; have P1 := Lib.hid (wp_below (wp_alloc P.out _) b1); have X1 := Lib.hid (keep_b (e_box (W := wr) ⟨yk, ys, yd, yv⟩ 30) b1); obtain ⟨a0, a1, a2, a3⟩ := box4 X1.out; obtain ⟨c0, c1, c2, c3⟩ := box4 (wp_box P1.out); simp only at a0 a1 a2 a3 c0 c1 c2 c3; have hw1 := wp_size P1.out; clear b1)
                  | (at_builtin
                     have Z := P1
                     refine wpList_append_lies _ rfl _ _ 22 rfl (w.heap.size + 1) 30 i0 _ 4 48 Tryz.underlying22 HI.out.1 HI.out.2.1 HI.out.2.2.1 HI.out.2.2.2 rfl (by decide) u5 O.length (eRow O) rfl (wp_alloc P1.out _).own ⟨w1.heap.size, 0, none⟩ 1 1 (eCells ⟨yk, ys, yd, ev⟩) rfl rfl (enews _ _ (by simp) _ _) (e_one ⟨yk, ys, yd, ev⟩) (by omega) (by unfold maxLen; omega) (by omega) (by simp; omega) (w1.heap.size + 1) (by simp) ?_
                     intro g cap w4 hown4 hgrow4 hwhere hlt4
                     have X4 := wp_keep P.out X1.out hgrow4; obtain ⟨d0, d1, d2, d3⟩ := box4 X4; have P4 := Lib.hid (wp_grown (O' := O ++ [⟨yk, ys, yd, ev⟩]) (wp_alloc P1.out _) hgrow4 (by rw [← eRow_snoc, List.length_append]; exact hown4)); obtain ⟨f0, f1, f2, f3⟩ := box4 (wp_box P4.out); simp only at d0 d1 d2 d3 f0 f1 f2 f3; have hw4 := wp_size P4.out
                     clear hown4 hgrow4 hwhere hlt4))
                go_roundw
                case rel => exact ⟨j + 1, O ++ [(⟨yk, ys, yd, ev⟩ : En)], true, by omega, (by have h := HR.out; rw [List.append_nil] at h; exact h), by simp <;> omega, by simp, by go_num, rfl, P4.out⟩
                case measure => simp [intOf]; omega
          · skip
            have hdf : differs ⟨yk, ys, yd, yv⟩ ⟨yk, ys, ed, ev⟩ = true := by simp [differs, hd]
            have hq1 : (yk.toList == yk.toList) = true := by simp
            obtain ⟨z0, z1, z2, z3⟩ := box4 (e_box (W := wr) ⟨yk, ys, yd, yv⟩ 30)
            obtain ⟨s0, s1, s2, s3⟩ := box4 (wp_box (wp_alloc P.out (.cells #[.string yk, .int .u64 ys, .int .i64 yd, .string yv] 30)))
            simp only at z0 z1 z2 z3 s0 s1 s2 s3
            cases b with
            | true =>
              have HR : Hid (wGo ⟨yk, ys, ed, ev⟩ (q.drop (j + 1)) true (O ++ [(⟨yk, ys, yd, yv⟩ : En)]) = wGo ⟨yk, ys, ed, ev⟩ q false []) := (w_step ⟨yk, ys, ed, ev⟩ ⟨yk, ys, yd, yv⟩ (q.drop (j + 1)) true true true O (fun h => by cases h) hdf).symm.trans hR
              clear hR hdf
              go_wp2_with (first
                | (at_builtin
                   skip
                   refine wpList_append_lies _ rfl _ _ 22 rfl (w.heap.size + 1) 30 i0 _ 4 48 Tryz.underlying22 HI.out.1 HI.out.2.1 HI.out.2.2.1 HI.out.2.2.2 rfl (by decide) u5 O.length (eRow O) rfl (wp_alloc (wp_alloc P.out _) _).own ⟨wr.heap.size + 1, 0, none⟩ 1 1 (eCells ⟨yk, ys, yd, yv⟩) rfl rfl (enews _ _ (by simp) _ _) (e_one ⟨yk, ys, yd, yv⟩) (by omega) (by unfold maxLen; omega) (by omega) (by simp; omega) (wr.heap.size + 1 + 1) (by simp) ?_
                   intro g cap w4 hown4 hgrow4 hwhere hlt4
                   have HE := Lib.hid (And.intro hown4 hgrow4)
                   clear hown4 hgrow4 hwhere hlt4))
              go_roundw
              case rel => exact ⟨j + 1, O ++ [(⟨yk, ys, yd, yv⟩ : En)], true, by omega, HR.out, by simp <;> omega, by simp, by go_num, rfl, wp_grown (O' := O ++ [⟨yk, ys, yd, yv⟩]) (wp_alloc (wp_alloc P.out _) _) HE.out.2 (by rw [← eRow_snoc, List.length_append]; exact HE.out.1)⟩
              case measure => simp [intOf]; omega
            | false =>
              have hOj := hO2 rfl
              cases hA : ahead ⟨yk, ys, yd, yv⟩ ⟨yk, ys, ed, ev⟩ with
              | true =>
                have AH : Hid (∀ W, Calls Tryz.prog 33 #[.agg #[.string yk, .int .u64 ys, .int .i64 yd, .string yv], .agg #[.string yk, .int .u64 ys, .int .i64 ed, .string ev]] W fun r w' => r = .returned (.bool true) ∧ Below W.heap.size W w') := fun W => by have := rahead_any ⟨yk, ys, yd, yv⟩ ⟨yk, ys, ed, ev⟩ W; rw [hA] at this; exact this
                have HR : Hid (wGo ⟨yk, ys, ed, ev⟩ (q.drop (j + 1)) false (O ++ [(⟨yk, ys, yd, yv⟩ : En)]) = wGo ⟨yk, ys, ed, ev⟩ q false []) := (w_step ⟨yk, ys, ed, ev⟩ ⟨yk, ys, yd, yv⟩ (q.drop (j + 1)) false true true O (fun _ => hA) hdf).symm.trans hR
                clear hR hdf hA
                go_wp2_with (first
                  | (go_at_call 33; (with_reducible refine (AH.out _).mono ?_); rintro r w1 ⟨rfl, b1⟩; have P1 := Lib.hid (wp_below (wp_alloc P.out _) b1); have X1 := Lib.hid (keep_b (e_box (W := wr) ⟨yk, ys, yd, yv⟩ 30) b1); obtain ⟨a0, a1, a2, a3⟩ := box4 X1.out; obtain ⟨c0, c1, c2, c3⟩ := box4 (wp_box P1.out); simp only at a0 a1 a2 a3 c0 c1 c2 c3; have hw1 := wp_size P1.out; clear b1)
                  | (at_builtin
                     have Z := P1
                     refine wpList_append_lies _ rfl _ _ 22 rfl (w.heap.size + 1) 30 i0 _ 4 48 Tryz.underlying22 HI.out.1 HI.out.2.1 HI.out.2.2.1 HI.out.2.2.2 rfl (by decide) u5 O.length (eRow O) rfl (wp_alloc P1.out _).own ⟨w1.heap.size, 0, none⟩ 1 1 (eCells ⟨yk, ys, yd, yv⟩) rfl rfl (enews _ _ (by simp) _ _) (e_one ⟨yk, ys, yd, yv⟩) (by omega) (by unfold maxLen; omega) (by omega) (by simp; omega) (w1.heap.size + 1) (by simp) ?_
                     intro g cap w4 hown4 hgrow4 hwhere hlt4
                     have HE := Lib.hid (And.intro hown4 hgrow4)
                     clear hown4 hgrow4 hwhere hlt4))
                go_roundw
                case rel => exact ⟨j + 1, O ++ [(⟨yk, ys, yd, yv⟩ : En)], false, by omega, HR.out, by simp <;> omega, by simp <;> omega, by go_num, rfl, wp_grown (O' := O ++ [⟨yk, ys, yd, yv⟩]) (wp_alloc P1.out _) HE.out.2 (by rw [← eRow_snoc, List.length_append]; exact HE.out.1)⟩
                case measure => simp [intOf]; omega
              | false =>
                have AH : Hid (∀ W, Calls Tryz.prog 33 #[.agg #[.string yk, .int .u64 ys, .int .i64 yd, .string yv], .agg #[.string yk, .int .u64 ys, .int .i64 ed, .string ev]] W fun r w' => r = .returned (.bool false) ∧ Below W.heap.size W w') := fun W => by have := rahead_any ⟨yk, ys, yd, yv⟩ ⟨yk, ys, ed, ev⟩ W; rw [hA] at this; exact this
                have HR : Hid (wGo ⟨yk, ys, ed, ev⟩ (q.drop (j + 1)) true (O ++ [(⟨yk, ys, ed, ev⟩ : En)] ++ [(⟨yk, ys, yd, yv⟩ : En)]) = wGo ⟨yk, ys, ed, ev⟩ q false []) := (w_step ⟨yk, ys, ed, ev⟩ ⟨yk, ys, yd, yv⟩ (q.drop (j + 1)) false false true O (fun _ => hA) hdf).symm.trans hR
                clear hR hdf hA
                go_wp2_with (first
                  | (go_at_call 33; (with_reducible refine (AH.out _).mono ?_); rintro r w1 ⟨rfl, b1⟩; have P1 := Lib.hid (wp_below (wp_alloc P.out _) b1); have X1 := Lib.hid (keep_b (e_box (W := wr) ⟨yk, ys, yd, yv⟩ 30) b1); obtain ⟨a0, a1, a2, a3⟩ := box4 X1.out; obtain ⟨c0, c1, c2, c3⟩ := box4 (wp_box P1.out); simp only at a0 a1 a2 a3 c0 c1 c2 c3; have hw1 := wp_size P1.out; clear b1)
                  | (at_builtin
                     have Z := P4
                     refine wpList_append_lies _ rfl _ _ 22 rfl (w.heap.size + 1) 30 i0 _ 4 48 Tryz.underlying22 HI.out.1 HI.out.2.1 HI.out.2.2.1 HI.out.2.2.2 rfl (by decide) (.slice (some ⟨g, 0, none⟩) (O.length + 1) cap) (O.length + 1) (eRow (O ++ [⟨yk, ys, ed, ev⟩])) rfl (by have := (wp_alloc P4.out (.cells #[.string yk, .int .u64 ys, .int .i64 yd, .string yv] 30)).own; rw [List.length_append] at this; exact this) ⟨w4.heap.size, 0, none⟩ 1 1 (eCells ⟨yk, ys, yd, yv⟩) rfl rfl (enews _ _ (by simp) _ _) (e_one ⟨yk, ys, yd, yv⟩) (by omega) (by unfold maxLen; omega) (by omega) (by simp; omega) (w4.heap.size + 1) (by simp) ?_
                     intro g5 cap5 w5 hown5 hgrow5 hwhere hlt5
                     have HE5 := Lib.hid (And.intro hown5 hgrow5)
                     clear hown5 hgrow5 hwhere hlt5)
                  | (at_builtin
                     have Z := P1
                     refine wpList_append_lies _ rfl _ _ 22 rfl (w.heap.size + 1) 30 i0 _ 4 48 Tryz.underlying22 HI.out.1 HI.out.2.1 HI.out.2.2.1 HI.out.2.2.2 rfl (by decide) u5 O.length (eRow O) rfl (wp_alloc P1.out _).own ⟨w1.heap.size, 0, none⟩ 1 1 (eCells ⟨yk, ys, ed, ev⟩) rfl rfl (enews _ _ (by simp) _ _) (e_one ⟨yk, ys, ed, ev⟩) (by omega) (by unfold maxLen; omega) (by omega) (by simp; omega) (w1.heap.size + 1) (by simp) ?_
                     intro g cap w4 hown4 hgrow4 hwhere hlt4
                     have X4 := wp_keep P.out X1.out hgrow4; obtain ⟨d0, d1, d2, d3⟩ := box4 X4; have P4 := Lib.hid (wp_grown (O' := O ++ [⟨yk, ys, ed, ev⟩]) (wp_alloc P1.out _) hgrow4 (by rw [← eRow_snoc, List.length_append]; exact hown4)); obtain ⟨f0, f1, f2, f3⟩ := box4 (wp_box P4.out); simp only at d0 d1 d2 d3 f0 f1 f2 f3; have hw4 := wp_size P4.out
                     clear hown4 hgrow4 hwhere hlt4))
                go_roundw
                case rel => exact ⟨j + 1, O ++ [(⟨yk, ys, ed, ev⟩ : En)] ++ [(⟨yk, ys, yd, yv⟩ : En)], true, by omega, HR.out, by simp <;> omega, by simp, by go_num, rfl, wp_grown (O' := O ++ [⟨yk, ys, ed, ev⟩] ++ [⟨yk, ys, yd, yv⟩]) (wp_alloc P4.out _) HE5.out.2 (by rw [← eRow_snoc, List.length_append, List.length_append]; exact HE5.out.1)⟩
                case measure => simp [intOf]; omega
        · skip
          have hdf : differs ⟨yk, ys, yd, yv⟩ ⟨yk, es, ed, ev⟩ = true := by simp [differs, hs]
          have hq1 : (yk.toList == yk.toList) = true := by simp
          have hq3 : ¬ ((ys : Int) = es) := by omega
          obtain ⟨z0, z1, z2, z3⟩ := box4 (e_box (W := wr) ⟨yk, ys, yd, yv⟩ 30)
          obtain ⟨s0, s1, s2, s3⟩ := box4 (wp_box (wp_alloc P.out (.cells #[.string yk, .int .u64 ys, .int .i64 yd, .string yv] 30)))
          simp only at z0 z1 z2 z3 s0 s1 s2 s3
          cases b with
          | true =>
            have HR : Hid (wGo ⟨yk, es, ed, ev⟩ (q.drop (j + 1)) true (O ++ [(⟨yk, ys, yd, yv⟩ : En)]) = wGo ⟨yk, es, ed, ev⟩ q false []) := (w_step ⟨yk, es, ed, ev⟩ ⟨yk, ys, yd, yv⟩ (q.drop (j + 1)) true true true O (fun h => by cases h) hdf).symm.trans hR
            clear hR hdf
            go_wp2_with (first
              | (at_builtin
                 skip
                 refine wpList_append_lies _ rfl _ _ 22 rfl (w.heap.size + 1) 30 i0 _ 4 48 Tryz.underlying22 HI.out.1 HI.out.2.1 HI.out.2.2.1 HI.out.2.2.2 rfl (by decide) u5 O.length (eRow O) rfl (wp_alloc (wp_alloc P.out _) _).own ⟨wr.heap.size + 1, 0, none⟩ 1 1 (eCells ⟨yk, ys, yd, yv⟩) rfl rfl (enews _ _ (by simp) _ _) (e_one ⟨yk, ys, yd, yv⟩) (by omega) (by unfold maxLen; omega) (by omega) (by simp; omega) (wr.heap.size + 1 + 1) (by simp) ?_
                 intro g cap w4 hown4 hgrow4 hwhere hlt4
                 have HE := Lib.hid (And.intro hown4 hgrow4)
                 clear hown4 hgrow4 hwhere hlt4))
            go_roundw
            case rel => exact ⟨j + 1, O ++ [(⟨yk, ys, yd, yv⟩ : En)], true, by omega, HR.out, by simp <;> omega, by simp, by go_num, rfl, wp_grown (O' := O ++ [⟨yk, ys, yd, yv⟩]) (wp_alloc (wp_alloc P.out _) _) HE.out.2 (by rw [← eRow_snoc, List.length_append]; exact HE.out.1)⟩
            case measure => simp [intOf]; omega
          | false =>
            have hOj := hO2 rfl
            cases hA : ahead ⟨yk, ys, yd, yv⟩ ⟨yk, es, ed, ev⟩ with
            | true =>
              have AH : Hid (∀ W, Calls Tryz.prog 33 #[.agg #[.string yk, .int .u64 ys, .int .i64 yd, .string yv], .agg #[.string yk, .int .u64 es, .int .i64 ed, .string ev]] W fun r w' => r = .returned (.bool true) ∧ Below W.heap.size W w') := fun W => by have := rahead_any ⟨yk, ys, yd, yv⟩ ⟨yk, es, ed, ev⟩ W; rw [hA] at this; exact this
              have HR : Hid (wGo ⟨yk, es, ed, ev⟩ (q.drop (j + 1)) false (O ++ [(⟨yk, ys, yd, yv⟩ : En)]) = wGo ⟨yk, es, ed, ev⟩ q false []) := (w_step ⟨yk, es, ed, ev⟩ ⟨yk, ys, yd, yv⟩ (q.drop (j + 1)) false true true O (fun _ => hA) hdf).symm.trans hR
              clear hR hdf hA
              go_wp2_with (first
                | (go_at_call 33; (with_reducible refine (AH.out _).mono ?_); rintro r w1 ⟨rfl, b1⟩; have P1 := Lib.hid (wp_below (wp_alloc P.out _) b1); have X1 := Lib.hid (keep_b (e_box (W := wr) ⟨yk, ys, yd, yv⟩ 30) b1); obtain ⟨a0, a1, a2, a3⟩ := box4 X1.out; obtain ⟨c0, c1, c2, c3⟩ := box4 (wp_box P1.out); simp only at a0 a1 a2 a3 c0 c1 c2 c3; have hw1 := wp_size P1.out; clear b1)
                | (at_builtin
                   have Z := P1
                   refine wpList_append_lies _ rfl _ _ 22 rfl (w.heap.size + 1) 30 i0 _ 4 48 Tryz.underlying22 HI.out.1 HI.out.2.1 HI.out.2.2.1 HI.out.2.2.2 rfl (by decide) u5 O.length (eRow O) rfl (wp_alloc P1.out _).own ⟨w1.heap.size, 0, none⟩ 1 1 (eCells ⟨yk, ys, yd, yv⟩) rfl rfl (enews _ _ (by simp) _ _) (e_one ⟨yk, ys, yd, yv⟩) (by omega) (by unfold maxLen; omega) (by omega) (by simp; omega) (w1.heap.size + 1) (by simp) ?_
                   intro g cap w4 hown4 hgrow4 hwhere hlt4
                   have HE := Lib.hid (And.intro hown4 hgrow4)
                   clear hown4 hgrow4 hwhere hlt4))
              go_roundw
              case rel => exact ⟨j + 1, O ++ [(⟨yk, ys, yd, yv⟩ : En)], false, by omega, HR.out, by simp <;> omega, by simp <;> omega, by go_num, rfl, wp_grown (O' := O ++ [⟨yk, ys, yd, yv⟩]) (wp_alloc P1.out _) HE.out.2 (by rw [← eRow_snoc, List.length_append]; exact HE.out.1)⟩
              case measure => simp [intOf]; omega
            | false =>
              have AH : Hid (∀ W, Calls Tryz.prog 33 #[.agg #[.string yk, .int .u64 ys, .int .i64 yd, .string yv], .agg #[.string yk, .int .u64 es, .int .i64 ed, .string ev]] W fun r w' => r = .returned (.bool false) ∧ Below W.heap.size W w') := fun W => by have := rahead_any ⟨yk, ys, yd, yv⟩ ⟨yk, es, ed, ev⟩ W; rw [hA] at this; exact this
              have HR : Hid (wGo ⟨yk, es, ed, ev⟩ (q.drop (j + 1)) true (O ++ [(⟨yk, es, ed, ev⟩ : En)] ++ [(⟨yk, ys, yd, yv⟩ : En)]) = wGo ⟨yk, es, ed, ev⟩ q false []) := (w_step ⟨yk, es, ed, ev⟩ ⟨yk, ys, yd, yv⟩ (q.drop (j + 1)) false false true O (fun _ => hA) hdf).symm.trans hR
              clear hR hdf hA
              go_wp2_with (first
                | (go_at_call 33; (with_reducible refine (AH.out _).mono ?_); rintro r w1 ⟨rfl, b1⟩; have P1 := Lib.hid (wp_below (wp_alloc P.out _) b1); have X1 := Lib.hid (keep_b (e_box (W := wr) ⟨yk, ys, yd, yv⟩ 30) b1); obtain ⟨a0, a1, a2, a3⟩ := box4 X1.out; obtain ⟨c0, c1, c2, c3⟩ := box4 (wp_box P1.out); simp only at a0 a1 a2 a3 c0 c1 c2 c3; have hw1 := wp_size P1.out; clear b1)
                | (at_builtin
                   have Z := P4
                   refine wpList_append_lies _ rfl _ _ 22 rfl (w.heap.size + 1) 30 i0 _ 4 48 Tryz.underlying22 HI.out.1 HI.out.2.1 HI.out.2.2.1 HI.out.2.2.2 rfl (by decide) (.slice (some ⟨g, 0, none⟩) (O.length + 1) cap) (O.length + 1) (eRow (O ++ [⟨yk, es, ed, ev⟩])) rfl (by have := (wp_alloc P4.out (.cells #[.string yk, .int .u64 ys, .int .i64 yd, .string yv] 30)).own; rw [List.length_append] at this; exact this) ⟨w4.heap.size, 0, none⟩ 1 1 (eCells ⟨yk, ys, yd, yv⟩) rfl rfl (enews _ _ (by simp) _ _) (e_one ⟨yk, ys, yd, yv⟩) (by omega) (by unfold maxLen; omega) (by omega) (by simp; omega) (w4.heap.size + 1) (by simp) ?_
                   intro g5 cap5 w5 hown5 hgrow5 hwhere hlt5
                   have HE5 := Lib.hid (And.intro hown5 hgrow5)
                   clear hown5 hgrow5 hwhere hlt5)
                | (at_builtin
                   have Z := P1
                   refine wpList_append_lies _ rfl _ _ 22 rfl (w.heap.size + 1) 30 i0 _ 4 48 Tryz.underlying22 HI.out.1 HI.out.2.1 HI.out.2.2.1 HI.out.2.2.2 rfl (by decide) u5 O.length (eRow O) rfl (wp_alloc P1.out _).own ⟨w1.heap.size, 0, none⟩ 1 1 (eCells ⟨yk, es, ed, ev⟩) rfl rfl (enews _ _ (by simp) _ _) (e_one ⟨yk, es, ed, ev⟩) (by omega) (by unfold maxLen; omega) (by omega) (by simp; omega) (w1.heap.size + 1) (by simp) ?_
                   intro g cap w4 hown4 hgrow4 hwhere hlt4
                   have X4 := wp_keep P.out X1.out hgrow4; obtain ⟨d0, d1, d2, d3⟩ := box4 X4; have P4 := Lib.hid (wp_grown (O' := O ++ [⟨yk, es, ed, ev⟩]) (wp_alloc P1.out _) hgrow4 (by rw [← eRow_snoc, List.length_append]; exact hown4)); obtain ⟨f0, f1, f2, f3⟩ := box4 (wp_box P4.out); simp only at d0 d1 d2 d3 f0 f1 f2 f3; have hw4 := wp_size P4.out
                   clear hown4 hgrow4 hwhere hlt4))
              go_roundw
              case rel => exact ⟨j + 1, O ++ [(⟨yk, es, ed, ev⟩ : En)] ++ [(⟨yk, ys, yd, yv⟩ : En)], true, by omega, HR.out, by simp <;> omega, by simp, by go_num, rfl, wp_grown (O' := O ++ [⟨yk, es, ed, ev⟩] ++ [⟨yk, ys, yd, yv⟩]) (wp_alloc P4.out _) HE5.out.2 (by rw [← eRow_snoc, List.length_append, List.length_append]; exact HE5.out.1)⟩
              case measure => simp [intOf]; omega
      · skip
        have hdf : differs ⟨yk, ys, yd, yv⟩ ⟨ek, es, ed, ev⟩ = true := by simp [differs, hk]
        obtain ⟨hq1, hq2⟩ := ne_lists hk
        obtain ⟨z0, z1, z2, z3⟩ := box4 (e_box (W := wr) ⟨yk, ys, yd, yv⟩ 30)
        obtain ⟨s0, s1, s2, s3⟩ := box4 (wp_box (wp_alloc P.out (.cells #[.string yk, .int .u64 ys, .int .i64 yd, .string yv] 30)))
        simp only at z0 z1 z2 z3 s0 s1 s2 s3
        cases b with
        | true =>
          have HR : Hid (wGo ⟨ek, es, ed, ev⟩ (q.drop (j + 1)) true (O ++ [(⟨yk, ys, yd, yv⟩ : En)]) = wGo ⟨ek, es, ed, ev⟩ q false []) := (w_step ⟨ek, es, ed, ev⟩ ⟨yk, ys, yd, yv⟩ (q.drop (j + 1)) true true true O (fun h => by cases h) hdf).symm.trans hR
          clear hR hdf hk
          go_wp2_with (first
            | (at_builtin
               skip
               refine wpList_append_lies _ rfl _ _ 22 rfl (w.heap.size + 1) 30 i0 _ 4 48 Tryz.underlying22 HI.out.1 HI.out.2.1 HI.out.2.2.1 HI.out.2.2.2 rfl (by decide) u5 O.length (eRow O) rfl (wp_alloc (wp_alloc P.out _) _).own ⟨wr.heap.size + 1, 0, none⟩ 1 1 (eCells ⟨yk, ys, yd, yv⟩) rfl rfl (enews _ _ (by simp) _ _) (e_one ⟨yk, ys, yd, yv⟩) (by omega) (by unfold maxLen; omega) (by omega) (by simp; omega) (wr.heap.size + 1 + 1) (by simp) ?_
               intro g cap w4 hown4 hgrow4 hwhere hlt4
               have HE := Lib.hid (And.intro hown4 hgrow4)
               clear hown4 hgrow4 hwhere hlt4))
          go_roundw
          case rel => exact ⟨j + 1, O ++ [(⟨yk, ys, yd, yv⟩ : En)], true, by omega, HR.out, by simp <;> omega, by simp, by go_num, rfl, wp_grown (O' := O ++ [⟨yk, ys, yd, yv⟩]) (wp_alloc (wp_alloc P.out _) _) HE.out.2 (by rw [← eRow_snoc, List.length_append]; exact HE.out.1)⟩
          case measure => simp [intOf]; omega
        | false =>
          have hOj := hO2 rfl
          cases hA : ahead ⟨yk, ys, yd, yv⟩ ⟨ek, es, ed, ev⟩ with
          | true =>
            have AH : Hid (∀ W, Calls Tryz.prog 33 #[.agg #[.string yk, .int .u64 ys, .int .i64 yd, .string yv], .agg #[.string ek, .int .u64 es, .int .i64 ed, .string ev]] W fun r w' => r = .returned (.bool true) ∧ Below W.heap.size W w') := fun W => by have := rahead_any ⟨yk, ys, yd, yv⟩ ⟨ek, es, ed, ev⟩ W; rw [hA] at this; exact this
            have HR : Hid (wGo ⟨ek, es, ed, ev⟩ (q.drop (j + 1)) false (O ++ [(⟨yk, ys, yd, yv⟩ : En)]) = wGo ⟨ek, es, ed, ev⟩ q false []) := (w_step ⟨ek, es, ed, ev⟩ ⟨yk, ys, yd, yv⟩ (q.drop (j + 1)) false true true O (fun _ => hA) hdf).symm.trans hR
            clear hR hdf hA hk
            go_wp2_with (first
              | (go_at_call 33; (with_reducible refine (AH.out _).mono ?_); rintro r w1 ⟨rfl, b1⟩; have P1 := Lib.hid (wp_below (wp_alloc P.out _) b1); have X1 := Lib.hid (keep_b (e_box (W := wr) ⟨yk, ys, yd, yv⟩ 30) b1); obtain ⟨a0, a1, a2, a3⟩ := box4 X1.out; obtain ⟨c0, c1, c2, c3⟩ := box4 (wp_box P1.out); simp only at a0 a1 a2 a3 c0 c1 c2 c3; have hw1 := wp_size P1.out; clear b1)
              | (at_builtin
                 have Z := P1
                 refine wpList_append_lies _ rfl _ _ 22 rfl (w.heap.size + 1) 30 i0 _ 4 48 Tryz.underlying22 HI.out.1 HI.out.2.1 HI.out.2.2.1 HI.out.2.2.2 rfl (by decide) u5 O.length (eRow O) rfl (wp_alloc P1.out _).own ⟨w1.heap.size, 0, none⟩ 1 1 (eCells ⟨yk, ys, yd, yv⟩) rfl rfl (enews _ _ (by simp) _ _) (e_one ⟨yk, ys, yd, yv⟩) (by omega) (by unfold maxLen; omega) (by omega) (by simp; omega) (w1.heap.size + 1) (by simp) ?_
                 intro g cap w4 hown4 hgrow4 hwhere hlt4
                 have HE := Lib.hid (And.intro hown4 hgrow4)
                 clear hown4 hgrow4 hwhere hlt4))
            go_roundw
            case rel => exact ⟨j + 1, O ++ [(⟨yk, ys, yd, yv⟩ : En)], false, by omega, HR.out, by simp <;> omega, by simp <;> omega, by go_num, rfl, wp_grown (O' := O ++ [⟨yk, ys, yd, yv⟩]) (wp_alloc P1.out _) HE.out.2 (by rw [← eRow_snoc, List.length_append]; exact HE.out.1)⟩
            case measure => simp [intOf]; omega
          | false =>
            have AH : Hid (∀ W, Calls Tryz.prog 33 #[.agg #[.string yk, .int .u64 ys, .int .i64 yd, .string yv], .agg #[.string ek, .int .u64 es, .int .i64 ed, .string ev]] W fun r w' => r = .returned (.bool false) ∧ Below W.heap.size W w') := fun W => by have := rahead_any ⟨yk, ys, yd, yv⟩ ⟨ek, es, ed, ev⟩ W; rw [hA] at this; exact this
            have HR : Hid (wGo ⟨ek, es, ed, ev⟩ (q.drop (j + 1)) true (O ++ [(⟨ek, es, ed, ev⟩ : En)] ++ [(⟨yk, ys, yd, yv⟩ : En)]) = wGo ⟨ek, es, ed, ev⟩ q false []) := (w_step ⟨ek, es, ed, ev⟩ ⟨yk, ys, yd, yv⟩ (q.drop (j + 1)) false false true O (fun _ => hA) hdf).symm.trans hR
            clear hR hdf hA hk
            go_wp2_with (first
              | (go_at_call 33; (with_reducible refine (AH.out _).mono ?_); rintro r w1 ⟨rfl, b1⟩; have P1 := Lib.hid (wp_below (wp_alloc P.out _) b1); have X1 := Lib.hid (keep_b (e_box (W := wr) ⟨yk, ys, yd, yv⟩ 30) b1); obtain ⟨a0, a1, a2, a3⟩ := box4 X1.out; obtain ⟨c0, c1, c2, c3⟩ := box4 (wp_box P1.out); simp only at a0 a1 a2 a3 c0 c1 c2 c3; have hw1 := wp_size P1.out; clear b1)
              | (at_builtin
                 have Z := P4
                 refine wpList_append_lies _ rfl _ _ 22 rfl (w.heap.size + 1) 30 i0 _ 4 48 Tryz.underlying22 HI.out.1 HI.out.2.1 HI.out.2.2.1 HI.out.2.2.2 rfl (by decide) (.slice (some ⟨g, 0, none⟩) (O.length + 1) cap) (O.length + 1) (eRow (O ++ [⟨ek, es, ed, ev⟩])) rfl (by have := (wp_alloc P4.out (.cells #[.string yk, .int .u64 ys, .int .i64 yd, .string yv] 30)).own; rw [List.length_append] at this; exact this) ⟨w4.heap.size, 0, none⟩ 1 1 (eCells ⟨yk, ys, yd, yv⟩) rfl rfl (enews _ _ (by simp) _ _) (e_one ⟨yk, ys, yd, yv⟩) (by omega) (by unfold maxLen; omega) (by omega) (by simp; omega) (w4.heap.size + 1) (by simp) ?_
                 intro g5 cap5 w5 hown5 hgrow5 hwhere hlt5
                 have HE5 := Lib.hid (And.intro hown5 hgrow5)
                 clear hown5 hgrow5 hwhere hlt5)
              | (at_builtin
                 have Z := P1
                 refine wpList_append_lies _ rfl _ _ 22 rfl (w.heap.size + 1) 30 i0 _ 4 48 Tryz.underlying22 HI.out.1 HI.out.2.1 HI.out.2.2.1 HI.out.2.2.2 rfl (by decide) u5 O.length (eRow O) rfl (wp_alloc P1.out _).own ⟨w1.heap.size, 0, none⟩ 1 1 (eCells ⟨ek, es, ed, ev⟩) rfl rfl (enews _ _ (by simp) _ _) (e_one ⟨ek, es, ed, ev⟩) (by omega) (by unfold maxLen; omega) (by omega) (by simp; omega) (w1.heap.size + 1) (by simp) ?_
                 intro g cap w4 hown4 hgrow4 hwhere hlt4
                 have X4 := wp_keep P.out X1.out hgrow4; obtain ⟨d0, d1, d2, d3⟩ := box4 X4; have P4 := Lib.hid (wp_grown (O' := O ++ [⟨ek, es, ed, ev⟩]) (wp_alloc P1.out _) hgrow4 (by rw [← eRow_snoc, List.length_append]; exact hown4)); obtain ⟨f0, f1, f2, f3⟩ := box4 (wp_box P4.out); simp only at d0 d1 d2 d3 f0 f1 f2 f3; have hw4 := wp_size P4.out
                 clear hown4 hgrow4 hwhere hlt4))
            go_roundw
            case rel => exact ⟨j + 1, O ++ [(⟨ek, es, ed, ev⟩ : En)] ++ [(⟨yk, ys, yd, yv⟩ : En)], true, by omega, HR.out, by simp <;> omega, by simp, by go_num, rfl, wp_grown (O' := O ++ [⟨ek, es, ed, ev⟩] ++ [⟨yk, ys, yd, yv⟩]) (wp_alloc P4.out _) HE5.out.2 (by rw [← eRow_snoc, List.length_append, List.length_append]; exact HE5.out.1)⟩
            case measure => simp [intOf]; omega
    · have hjl : j = q.length := by omega
      rw [hjl, List.drop_length] at hR
      cases b with
      | true =>
        have e : Hid (wGo ⟨ek, es, ed, ev⟩ q false [] = O) := hR.symm
        clear hR
        go_wp2
        go_ret
        exact ⟨_, rfl, by rw [e.out]; exact P.out.own, wp_end P.out⟩
      | false =>
        have hOj := hO2 rfl
        have e : Hid (wGo ⟨ek, es, ed, ev⟩ q false [] = O ++ [⟨ek, es, ed, ev⟩]) := hR.symm
        clear hR
        go_wp2_with (first
          | (at_builtin
             skip
             refine wpList_append_lies _ rfl _ _ 22 rfl (w.heap.size + 1) 30 i0 _ 4 48 Tryz.underlying22 HI.out.1 HI.out.2.1 HI.out.2.2.1 HI.out.2.2.2 rfl (by decide) u5 O.length (eRow O) rfl (wp_alloc P.out _).own ⟨wr.heap.size, 0, none⟩ 1 1 (eCells ⟨ek, es, ed, ev⟩) rfl rfl (enews _ _ (by simp) _ _) (e_one ⟨ek, es, ed, ev⟩) (by omega) (by unfold maxLen; omega) (by omega) (by simp; omega) (wr.heap.size + 1) (by simp) ?_
             intro g cap w4 hown4 hgrow4 hwhere hlt4
             have HE := Lib.hid (And.intro hown4 hgrow4)
             clear hown4 hgrow4 hwhere hlt4))
        go_ret
        exact ⟨_, rfl, by rw [e.out, ← eRow_snoc, List.length_append]; exact HE.out.1, wp_end (wp_grown (O' := O ++ [⟨ek, es, ed, ev⟩]) (wp_alloc P.out _) HE.out.2 (by rw [← eRow_snoc, List.length_append]; exact HE.out.1))⟩
end Go.Proofs.YtadejeoiffaimaaGreatDoor.Me
