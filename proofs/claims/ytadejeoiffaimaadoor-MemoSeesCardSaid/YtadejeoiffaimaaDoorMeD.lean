/-
  An entry added to a memo: the Go text walked. Conditions: as each theorem states.
-/
import Derived.Test.YtadejeoiffaimaaDoorMeC
import Derived.Deep.RegionWith
namespace Go.Proofs.YtadejeoiffaimaaDoor.Me
open Go.RowKit
open Vi
open Go.Proofs.YtadejeoiffaimaaDoor.Sk (feet Lst Moves Only Srt pairs_srt)

theorem lst_srt {w : World} {l n : Nat} {v : Value} {P : List Sk.Pr} (h : Lst w l v P n) : Srt P := by
  obtain ⟨s, b, st, h1, rfl, rfl⟩ := h
  exact pairs_srt h1.ok
/-- behind Put, ahead of the count -/
structure Mid (w : World) (b l : Nat) (v : Value) (E E' : List En) (n : Nat) (m : Int) : Prop where
  box : w.heap[b]? = some (.cells #[.pointer (some ⟨l, 0, none⟩), .int .i64 (overE E : Nat)] 47 (0, 0))
  lst : Lst w l v (E'.map pr) n
  off : b ∉ feet l v
  glo : w.cell? ⟨0, 0, none⟩ = some (.int .i64 m)
  pos : 0 < b
  low : ∀ k ∈ feet l v, 0 < k
theorem Mid.done {w : World} {b l : Nat} {v : Value} {E E' : List En} {n : Nat} {m : Int} (h : Mid w b l v E E' n m) (hg : ∀ x ∈ E', x.good) (ho : overE E' = overE E) (hl : overE E' ≤ 65536 * 1000) : MemAt w b l v E' n m :=
  ⟨by rw [ho]; exact h.box, h.lst, hg, h.off, h.glo, h.pos, h.low, hl⟩
theorem Mid.set {w : World} {b l : Nat} {v : Value} {E E' : List En} {n : Nat} {m : Int} (h : Mid w b l v E E' n m) (hg : ∀ x ∈ E', x.good) (hl : overE E' ≤ 65536 * 1000) : MemAt (w.setCell ⟨b, 1, none⟩ (.int .i64 (overE E' : Nat))) b l v E' n m := by
  have hk : ∀ k, k ≠ b → (w.setCell ⟨b, 1, none⟩ (.int .i64 (overE E' : Nat))).heap[k]? = w.heap[k]? := fun k hk => Below.heap_setCell w ⟨b, 1, none⟩ _ k (fun e => hk e)
  refine ⟨Sk.heap_set h.box 1 _, h.lst.kept (fun k hm => hk k (fun e => h.off (e ▸ hm))), hg, h.off, ?_, h.pos, h.low, hl⟩
  rw [World.cell?_setCell_other _ _ _ _ (by intro e; injection e with e1; have := h.pos; omega)]
  exact h.glo
theorem Mid.below {w w' : World} {b l : Nat} {v : Value} {E E' : List En} {n : Nat} {m : Int} (h : Mid w b l v E E' n m) (hb : Below w.heap.size w w') : Mid w' b l v E E' n m :=
  ⟨(hb.block b (Array.getElem?_eq_some_iff.1 h.box).1).trans h.box, h.lst.below hb, h.off, (hb.cell (p := ⟨0, 0, none⟩) (cell_lt h.glo)).trans h.glo, h.pos, h.low⟩
theorem mid_of {w w' : World} {b l n n' : Nat} {v v' : Value} {E E' : List En} {m : Int} (h : MemAt w b l v E n m) (hM : Moves w (feet l v) w' (feet l v')) (hL : Lst w' l v' (E'.map pr) n') : Mid w' b l v' E E' n' m := by
  obtain ⟨h1, h2, h3, h4⟩ := put_facts h hM
  exact ⟨h1.trans h.box, hL, h3, h2.trans h.glo, h.pos, h4⟩
theorem add_moves {w w2 w3 : World} {l : Nat} {v v' : Value} (b2 : Below w.heap.size w w2) (h : Moves w2.drew (feet l v) w3 (feet l v')) (b : Nat) : Moves w (mfeet b l v) w3 (mfeet b l v') :=
  (Moves.of_below b2).trans ((Moves.of_below (below_drew w2)).trans (moves_cons h b))
theorem set_moves {w : World} {b l : Nat} {v : Value} (j : Nat) (x : Value) : Moves w (mfeet b l v) (w.setCell ⟨b, j, none⟩ x).drew (mfeet b l v) :=
  (moves_set (j := j) (x := x) (feet l v)).trans (Moves.of_below (below_drew _))
def AddPost (w : World) (b l : Nat) (v : Value) (E' : List En) (n : Nat) (m : Int) (r : Ending) (w' : World) : Prop :=
  r = .returned (.int .i64 0) ∧ ∃ v' n', MemAt w' b l v' E' n' m ∧ n' ≤ n + 1 ∧ Moves w (mfeet b l v) w' (mfeet b l v')
set_option maxRecDepth 100000 in
set_option maxHeartbeats 4000000 in
theorem add_any {w : World} {b l n : Nat} {v : Value} {E : List En} {m : Int} (h : MemAt w b l v E n m) (e : En) (he : e.good) (hv : e.val.size ≤ 1000000) (hn : n < 65000) (height : Int) :
    Calls Tryd.prog 8 #[.pointer (some ⟨b, 0, none⟩), .agg #[.string e.key, .int .u64 e.seq, .int .i64 e.kind, .string e.val], .int .i64 height] w (AddPost w b l v (addE E e) n m) := by
  have hcnt := add_counts (lst_srt h.lst) e
  have hlen : E.length = n := by
    have := h.lst.len.1; rw [List.length_map] at this; exact this
  have hgE := add_good h.good he
  have hov := overE_le (addE E e) hgE
  have hovE := overE_le E h.good
  have hge := over_ge e he
  have hol := over_le he
  have hpz : (plc e).size ≤ 200 := by
    have := kb_len e
    unfold plc; rw [bs_size]; omega
  have hk85 := he.k2
  obtain ⟨D, hD⟩ : ∃ D, over e = D := ⟨_, rfl⟩
  have hsz : (plc e).size = e.key.size + 8 + D := by unfold over at hD; omega
  have hw1 : IntKind.i64.wrap (((plc e).size : Int) - (e.key.size : Int)) = (D : Int) + 8 := by rw [IntWalk.i64_in _ (by omega)]; omega
  have hw2 : IntKind.i64.wrap (D : Int) = (D : Int) := IntWalk.i64_in _ (by omega)
  have hw3 : IntKind.i64.wrap ((overE E : Int) + (D : Int)) = ((overE E + D : Nat) : Int) := by rw [IntWalk.i64_in _ (by omega)]; omega
  clear hsz
  have hpe := put_e h.good he
  have HG := Lib.hid hgE
  have HPE := Lib.hid hpe
  have HE := Lib.hid he
  have HW := Lib.hid he.wf
  have HKS : Hid (e.key.size ≤ 1000000) := by rw [Hid]; omega
  have HPS : Hid ((plc e).size ≤ 1099511627776) := by rw [Hid]; omega
  have HVS : Hid (e.val.size ≤ 1099511627776) := by rw [Hid]; omega
  have hb0 : Below w.heap.size w (w.alloc (.cells #[.string e.key, .int .u64 e.seq, .int .i64 e.kind, .string e.val] 30)) := (Below.refl _ w).alloc (Nat.le_refl _) _
  have H0 := Lib.hid (h.below hb0)
  have X0 : Hid ((w.alloc (.cells #[.string e.key, .int .u64 e.seq, .int .i64 e.kind, .string e.val] 30)).heap[w.heap.size]? = some (.cells #[.string e.key, .int .u64 e.seq, .int .i64 e.kind, .string e.val] 30 (0, 0))) := heap_alloc_new w _
  have B0 := Lib.hid hb0
  have HXF : Hid (w.heap.size ∉ feet l v) := fun hm => by have := h.lst.lt _ hm; omega
  have hinf := ent_info
  have HXB : Hid (b < w.heap.size) := h.blt
  obtain ⟨k0, k1, k2, k3⟩ := box4 X0.out
  clear h he hpe hgE hb0
  go_enter Tryd.func8, Tryd.ntmps8
  go_wp2_with (first
    | (go_at_call 20; refine (check_good e HE.out).mono ?_; rintro r w1 ⟨rfl, b1⟩; have H1 := Lib.hid (H0.out.below b1); have X1 := Lib.hid (keep_b X0.out b1); have B1 := Lib.hid (B0.out.trans (b1.mono B0.out.size)); obtain ⟨q0, q1, q2, q3⟩ := box4 X1.out; clear b1)
    | (go_at_call 21; refine (place_any e HW.out HKS.out m H1.out.glo).mono ?_; rintro r w2 ⟨rfl, b2⟩; have H2 := Lib.hid (H1.out.below b2); have X2 := Lib.hid (keep_b X1.out b2); have B2 := Lib.hid (B1.out.trans (b2.mono B1.out.size)); clear b2)
    | (go_at_call 12; refine (len_any H2.out).mono ?_; rintro r w' ⟨rfl, rfl⟩))
  obtain ⟨p0, p1⟩ := box2 H2.out.box
  obtain ⟨t0, t1, t2, t3⟩ := box4 X2.out
  have H2d := Lib.hid H2.out.drew
  go_region_held3 (fun wx => wx.cell? ⟨b, 0, none⟩ = some (.pointer (some ⟨l, 0, none⟩)) ∧ wx.cell? ⟨w.heap.size, 3, none⟩ = some (.string e.val))
    (first | exact ⟨p0, t3⟩ | exact ⟨(box2 M3.out.box).1, (box4 X3.out).2.2.2⟩)
    (first
      | (go_at_call 22; refine (Sk.putL_any H2d.out.lst (plc e) e.val HPS.out HVS.out height (by omega)).mono ?_; rintro r w3 ⟨rfl, v', n', hL, hn', hM⟩; rw [HPE.out] at hL; have M3 := Lib.hid (mid_of H2d.out hM hL); have X3 := Lib.hid ((hM.only.block _ (Array.getElem?_eq_some_iff.1 X2.out).1 HXF.out).trans X2.out); have MV := Lib.hid hM; clear hL hM))
  rcases hcnt with ⟨c1, c2⟩ | ⟨c1, c2⟩
  · go_wp2_with (first
      | (go_at_call 12; refine (len_raw M3.out.box M3.out.lst).mono ?_; rintro r w' ⟨rfl, rfl⟩))
    go_ret
    exact ⟨rfl, v', n', M3.out.done HG.out c2 (by omega), hn', add_moves B2.out MV.out b⟩
  · go_wp2_with (first
      | (go_at_call 12; refine (len_raw M3.out.box M3.out.lst).mono ?_; rintro r w' ⟨rfl, rfl⟩))
    obtain ⟨y0, y1⟩ := box2 M3.out.box
    have f1 := Sk.free_in M3.out.box 1
    obtain ⟨z0, z1, z2, z3⟩ := box4 X3.out
    have hbx : b ≠ w.heap.size := fun e => by have := H0.out.blt; subst e; exact absurd HXB.out (by omega)
    go_region_with (fail)
    all_goals
      go_wp2
      go_ret
      refine ⟨rfl, v', n', ?_, hn', (add_moves B2.out MV.out b).trans (set_moves _ _)⟩
      have hq : (overE (addE E e) : Nat) = overE E + D := by omega
      have := (M3.out.set HG.out (by omega))
      rw [hq] at this
      exact this.below ((Below.refl _ _).drew)
end Go.Proofs.YtadejeoiffaimaaDoor.Me
