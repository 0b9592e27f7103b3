/-
  A skip list's Put: the Go text walked. Conditions: as each theorem states.
-/
import Derived.Test.YtadejeoiffaimaaDoorSkF
import Derived.Deep.MidRow
namespace Go.Proofs.YtadejeoiffaimaaDoor.Sk
open Go.RowKit

theorem total_app (A B : List Pr) : total (A ++ B) = total A + total B := by simp [total]
theorem total_cons (x : Pr) (B : List Pr) : total (x :: B) = x.1.size + x.2.size + total B := by simp [total]
theorem total_le (P : List Pr) (h : ∀ x ∈ P, x.1.size ≤ 1099511627776 ∧ x.2.size ≤ 1099511627776) : total P ≤ P.length * 2199023255552 := by
  induction P with
  | nil => simp [total]
  | cons x P ih =>
    have h1 := h x (by simp)
    have h2 := ih (fun y hy => h y (by simp [hy]))
    rw [total_cons, List.length_cons, Nat.succ_mul]; omega
theorem SkAt.bytes_bd {w : World} {l : Nat} {v : Value} {s : Ls} {bytes steps : Int} (h : SkAt w l v s bytes steps) : 0 ≤ bytes ∧ bytes ≤ 1000000000000000000 := by
  have h1 := total_le (pairs s) (fun x hx => by
    obtain ⟨p, hp, rfl⟩ := List.mem_map.1 hx
    exact h.fit p hp)
  rw [pairs_len h.ok] at h1
  have h2 := h.few
  have h3 := h.tot
  have h4 := Nat.mul_le_mul_right 2199023255552 h2
  omega
theorem split_at {s : Ls} {a : Nat} (ha : a < s.S.length) : pairs s = (pairs s).take a ++ (s.K s.S[a], s.V s.S[a]) :: (pairs s).drop (a + 1) := by
  have hl : a < (pairs s).length := by simpa [pairs] using ha
  have e : (pairs s)[a] = (s.K s.S[a], s.V s.S[a]) := by simp [pairs]
  rw [← e, ← drop_cons hl, List.take_append_drop]
theorem put_total {s : Ls} (ok : Ok s) (x : ByteArray) {a : Nat} (ha : a < s.S.length) : total (pairs (put s s.S[a] x)) + (s.V s.S[a]).size = total (pairs s) + x.size := by
  rw [pairs_put ok x ha]
  conv => rhs; rw [split_at ha]
  simp only [total_app, total_cons]; omega
theorem ins_total {s : Ls} (ok : Ok s) (k x : ByteArray) (h : Nat) : total (pairs (ins s k x h)) = total (pairs s) + (k.size + x.size) := by
  rw [pairs_ins ok]
  conv => rhs; rw [← List.take_append_drop (pos s k) (pairs s)]
  simp only [total_app, total_cons]; omega
/-- a new value, and the bytes that it turns -/
theorem value_turn {w : World} {l g cap : Nat} {v : Value} {s : Ls} {bytes steps : Int} (h : SkAt w l v s bytes steps) (hv : v = .slice (some ⟨g, 0, none⟩) s.n cap) {a p : Nat} (ha : a < s.S.length) (hp : s.S[a] = p) (x : ByteArray) (hx : x.size ≤ 1099511627776) {w2 : World} {y : Int} (hy : y = bytes + ((x.size : Int) - ((s.V p).size : Int)))
    (hb : Below w.heap.size (w.setCell ⟨l, 13, none⟩ (.int .i64 y)) w2) :
    SkAt (w2.setCell ⟨g, (p - 1) * 15 + 1, none⟩ (.string x)) l v (put s p x) y steps ∧ Moves w (feet l v) (w2.setCell ⟨g, (p - 1) * 15 + 1, none⟩ (.string x)) (feet l v) := by
  have hlt := h.lt
  have hgm : g ∈ feet l v := by simp [feet, hv, Value.ownBlock]
  have hgl : g ≠ l := fun e => h.apart (by rw [hv]; simp [Value.ownBlock, e])
  obtain ⟨hp1, hp2⟩ := h.ok.mem p (by rw [← hp]; exact List.getElem_mem ha)
  have hl0 : w2.heap[l]? = some (.cells (listCells v (s.nx 0) y steps).toArray 66 (0, 0)) :=
    (hb.block l (hlt l (by simp [feet]))).trans ((heap_set h.box 13 _).trans (by rw [list_set13]))
  have hg0 : w2.heap[g]? = w.heap[g]? := (hb.block g (hlt g hgm)).trans (Below.heap_setCell _ _ _ _ hgl)
  have hm : Moves w (feet l v) w2 (feet l v) := ((Moves.refl (feet l v) w).cell (.inr (by simp [feet])) 13 _).onTo (Nat.le_refl _) hb
  refine ⟨⟨(Below.heap_setCell _ _ _ _ (Ne.symm hgl)).trans hl0, ?_, put_ok h.ok p x, h.few, h.apart, ?_, ?_⟩, hm.cell (.inr hgm) _ _⟩
  · have har : arena (put s p x) = (arena s).set ((p - 1) * 15 + 1) (.string x) := by
      refine arena_set (s := s) (s' := put s p x) (p := p) (j := 1) rfl hp1 hp2 (by omega) _ ?_ (fun q hq _ => ?_)
      · show twCells _ (upd s.V p x p) _ _ = _
        rw [upd_same]; rfl
      · show twCells _ (upd s.V p x q) _ _ = _
        rw [upd_ne _ _ hq]; rfl
    rw [har]
    have hr : w2.ownsRow 0 79 15 v s.n (arena s) := ownsRow_kept h.row (fun g' hg' => by
      have e : g' = g := by rw [hv] at hg'; simpa [Value.ownBlock, eq_comm] using hg'
      rw [e]; exact hg0)
    rw [hv] at hr ⊢
    exact row_set hr (by rw [arena_len]; omega) _
  · intro q hq
    obtain ⟨f1, f2⟩ := h.fit q hq
    refine ⟨f1, ?_⟩
    show (upd s.V p x q).size ≤ _
    by_cases e : q = p
    · subst e; rw [upd_same]; exact hx
    · rw [upd_ne _ _ e]; exact f2
  · have := put_total h.ok x ha
    rw [hp] at this
    have := h.tot
    omega
theorem range_below {W W' : World} {b : Nat} {cs : List Value} (h : W.rangeAt b 0 cs) {B : Nat} (hb : Below B W W') (hl : b < B) : W'.rangeAt b 0 cs := fun j x hj => (hb.cell (p := ⟨b, 0 + j, none⟩) hl).trans (h j x hj)
theorem range_moves {W W' : World} {b : Nat} {cs : List Value} {fp fp' : List Nat} (h : W.rangeAt b 0 cs) (hm : Moves W fp W' fp') (hl : b < W.heap.size) (hn : b ∉ fp) : W'.rangeAt b 0 cs := fun j x hj => (World.cell?_of_block (hm.only.block b hl hn)).trans (h j x hj)
def PutPost (w : World) (l : Nat) (v : Value) (s' : Ls) (e : Ending) (w' : World) : Prop :=
  e = .returned (.int .i64 0) ∧ ∃ v' bytes' steps', SkAt w' l v' s' bytes' steps' ∧ Moves w (feet l v) w' (feet l v')
section
variable {w : World} {l : Nat} {v : Value} {s : Ls} {bytes steps : Int}
set_option maxRecDepth 100000 in
set_option maxHeartbeats 1000000 in
theorem put_hit (h : SkAt w l v s bytes steps) (k x : ByteArray) (hx : x.size ≤ 1099511627776) (height : Int) (hy : there s k = true) {p : Nat} (hp : ∃ hh : pos s k < s.S.length, s.S[pos s k] = p) :
    Calls Tryd.prog 22 #[.pointer (some ⟨l, 0, none⟩), .string k, .string x, .int .i64 height] w (PutPost w l v (put s p x)) := by
  obtain ⟨ah, hah⟩ : ∃ ah, prv s.H s.S (pos s k) = ah := ⟨_, rfl⟩
  obtain ⟨hh, hp⟩ := hp
  obtain ⟨_, hat, _⟩ := there_yes h.ok hy
  rw [hp] at hat
  obtain ⟨hq1, hq2⟩ := h.ok.mem p (by rw [← hp]; exact List.getElem_mem hh)
  have hvs : (s.V p).size ≤ 1099511627776 := (h.fit p (by rw [← hp]; exact List.getElem_mem hh)).2
  have hfew := h.few
  obtain ⟨hb0, hb1⟩ := h.bytes_bd
  obtain ⟨g, cap, hv, hgl, _⟩ := h.tower hq1 hq2
  have HP := Lib.hid hp
  have HA := Lib.hid (And.intro hah hat)
  have HT := Lib.hid hy
  have HV := Lib.hid hv
  have HH := Lib.hid h
  have HX : Hid (x.size ≤ 281474976710656) := Nat.le_trans hx (by decide)
  clear h hah hat hy hp hv
  go_enter Tryd.func22, Tryd.ntmps22
  go_wp2_with (first
    | (go_at_call 38; (with_reducible refine (search_at HH.out k HA.out HT.out).mono ?_); rintro e w1 ⟨st, hst, rfl, hs1, hm1⟩; have HS1 := Lib.hid (And.intro hs1 hm1); clear hs1 hm1)
    | (go_at_call 39; (with_reducible refine (tower_any (HC0.out) hq1 hq2 hfew).mono ?_); rintro e w3 ⟨rfl, rfl⟩)
    | (with_reducible refine wpList_store_row (o := ⟨none, .store 74 (.tmp 9) (.tmp 15), _, _, _, _⟩) ?_ 74 (.tmp 9) (.tmp 15) ?_ w1.heap.size (spotCells ah p true st).toArray ?_ ?_ 74 _ (heap_alloc_new w1 _) (spot_info _ _ _ _) (spot_size _ _ _ _).symm (spot_one _ _ _ _) ?_
       · rfl
       · rfl
       · rfl
       · rfl
       obtain ⟨m1, m3, m4⟩ := spot_box (cs := (spotCells ah p true st).toArray) HS1.out.1 HS1.out.2
       generalize ((w1.alloc _).setRow _ _) = W at m1 m3 m4 ⊢
       have x12 := cell_in m1 12 (.int .i32 (p : Nat)) rfl
       have x13 := cell_in m1 13 (.bool true) rfl
       have HC0 : Hid (W.cell? ⟨l, 0, none⟩ = some (.slice (some ⟨g, 0, none⟩) s.n cap)) := by rw [Hid, m3.cell0, HV.out]
       have y13 := m3.cell13
       have z13 := m3.free 13
       obtain ⟨g', cap', hv', _, hcl⟩ := m3.tower hq1 hq2
       obtain ⟨rfl, rfl⟩ : g' = g ∧ cap' = cap := by
         have := hv'.symm.trans HV.out
         simpa using this
       obtain ⟨y1, z1⟩ := hcl 1 (.string (s.V p)) rfl
       have hgW : g' < W.heap.size := m3.lt g' (by simp [feet, hv', Value.ownBlock])
       have hlW : l < W.heap.size := m3.lt l (by simp [feet])
       clear hcl hv'
       have HS := Lib.hid (And.intro m3 m4)
       clear m1 m3 m4))
  go_region
  all_goals
    go_wp2_with (first
      | (go_at_call 24; (with_reducible refine (clone_any _ _ HX).mono ?_); rintro e w4 ⟨rfl, hb4⟩; obtain ⟨hcc, hff⟩ := bcell hb4))
    have HE := value_turn HS.out.1 HV.out hh HP.out x hx rfl ((below_drew _ _).trans (hb4.mono (by simp)))
    go_ret
    exact ⟨rfl, v, _, st, HE.1, HS.out.2.trans HE.2⟩
theorem raise_lit (hA : SkAt w l v s bytes steps) (k x : ByteArray) {ah : Nat → Nat} (ha : Hid (prv s.H s.S (pos s k) = ah)) (h : Nat) (h1 : 1 ≤ h) (h12 : h ≤ 12) (hfew : s.n < 65536) (hk : k.size ≤ 1099511627776) (hx : x.size ≤ 1099511627776) :
    Calls Tryd.prog 40 #[.pointer (some ⟨l, 0, none⟩), .agg (links ah).toArray, .agg #[.string k, .string x, .int .i64 (h : Nat), .int .i32 0, .int .i32 0, .int .i32 0, .int .i32 0, .int .i32 0, .int .i32 0, .int .i32 0, .int .i32 0, .int .i32 0, .int .i32 0, .int .i32 0, .int .i32 0]] w (RaisePost w l v s k x h (bytes + ((k.size : Int) + (x.size : Int))) steps) :=
  raise_any hA k x ha h h1 h12 hfew hA.bytes_bd.1 hA.bytes_bd.2 hk hx
theorem ins_at {w' : World} {v' : Value} {k x : ByteArray} {h : Nat} (hA : SkAt w l v s bytes steps) (hm : SkMem w' l v' (ins s k x h) (bytes + ((k.size : Int) + (x.size : Int))) steps) (hno : there s k = false) (h1 : 1 ≤ h) (h12 : h ≤ 12) (hk : k.size ≤ 1099511627776) (hx : x.size ≤ 1099511627776) :
    SkAt w' l v' (ins s k x h) (bytes + ((k.size : Int) + (x.size : Int))) steps := by
  refine ⟨hm.box, hm.row, ins_ok hA.ok k x h1 h12 (there_no hA.ok hno), hm.few, hm.apart, fun q hq => ?_, ?_⟩
  · show (upd s.K (s.n + 1) k q).size ≤ _ ∧ (upd s.V (s.n + 1) x q).size ≤ _
    by_cases e : q = s.n + 1
    · subst e; rw [upd_same, upd_same]; exact ⟨hk, hx⟩
    · rw [upd_ne _ _ e, upd_ne _ _ e]
      have hq' : q ∈ insS s.S (pos s k) (s.n + 1) := hq
      unfold insS at hq'
      rcases List.mem_append.1 hq' with h' | h'
      · exact hA.fit q (List.mem_of_mem_take h')
      · rcases List.mem_cons.1 h' with h' | h'
        · exact absurd h' e
        · exact hA.fit q (List.mem_of_mem_drop h')
  · rw [ins_total hA.ok, hA.tot]; omega
set_option maxRecDepth 100000 in
set_option maxHeartbeats 2000000 in
theorem put_miss (h : SkAt w l v s bytes steps) (k x : ByteArray) (hk : k.size ≤ 1099511627776) (hx : x.size ≤ 1099511627776) (height : Int) {hn : Nat} (hhn : min (max height 1) 12 = (hn : Int)) (hno : there s k = false) (hfew : s.n < 65536) :
    Calls Tryd.prog 22 #[.pointer (some ⟨l, 0, none⟩), .string k, .string x, .int .i64 height] w (PutPost w l v (ins s k x hn)) := by
  obtain ⟨ah, hah⟩ : ∃ ah, prv s.H s.S (pos s k) = ah := ⟨_, rfl⟩
  obtain ⟨at_, hat⟩ : ∃ at_, nxt s.H s.S (pos s k) 0 = at_ := ⟨_, rfl⟩
  have hsl : ∃ a c, v = .slice a s.n c := by
    rcases h.row.2 with ⟨hv, h0⟩ | ⟨g, cap, cur, hv, _⟩
    · exact ⟨none, 0, by rw [hv, h0]⟩
    · exact ⟨_, _, hv⟩
  obtain ⟨sa, sc, rfl⟩ := hsl
  have h1 : 1 ≤ hn := by omega
  have h12 : hn ≤ 12 := by omega
  have HAH := Lib.hid hah
  have HA := Lib.hid (And.intro hah hat)
  have HT := Lib.hid hno
  have HH := Lib.hid h
  have HX : Hid (x.size ≤ 281474976710656) := Nat.le_trans hx (by decide)
  have HKK : Hid (k.size ≤ 281474976710656) := Nat.le_trans hk (by decide)
  have hful : decide ((65536 : Int) ≤ (s.n : Int)) = false := by simp; omega
  have HHN := Lib.hid hhn
  have HFW := Lib.hid hfew
  clear h hah hat hno hhn hfew
  go_enter Tryd.func22, Tryd.ntmps22
  go_wp2_with (first
    | (go_at_call 38; (with_reducible refine (search_at HH.out k HA.out HT.out).mono ?_); rintro e w1 ⟨st, hst, rfl, hs1, hm1⟩; have HS1 := Lib.hid (And.intro hs1 hm1); clear hs1 hm1)
    | (with_reducible refine wpList_store_row (o := ⟨none, .store 74 (.tmp 9) (.tmp 15), _, _, _, _⟩) ?_ 74 (.tmp 9) (.tmp 15) ?_ w1.heap.size (spotCells ah at_ false st).toArray ?_ ?_ 74 _ (heap_alloc_new w1 _) (spot_info _ _ _ _) (spot_size _ _ _ _).symm (spot_one _ _ _ _) ?_
       · rfl
       · rfl
       · rfl
       · rfl
       obtain ⟨m1, m3, m4⟩ := spot_box (cs := (spotCells ah at_ false st).toArray) HS1.out.1 HS1.out.2
       generalize ((w1.alloc _).setRow _ _) = W at m1 m3 m4 ⊢
       have x12 := cell_in m1 12 (.int .i32 (at_ : Nat)) rfl
       have x13 := cell_in m1 13 (.bool false) rfl
       have HK : Hid (W.rangeAt w1.heap.size 0 (links ah)) := fun j x hj => by
         rw [Nat.zero_add]
         refine cell_in m1 j x ?_
         rw [List.getElem?_toArray, spotCells, List.getElem?_append_left (by rcases Nat.lt_or_ge j (links ah).length with h | h; exact h; rw [List.getElem?_eq_none h] at hj; cases hj)]
         exact hj
       have hM : Hid (w1.heap.size < W.heap.size) := (Array.getElem?_eq_some_iff.1 m1).1
       have hMF : Hid (w1.heap.size ∉ feet l (.slice sa s.n sc)) := fun hm => by have := HS1.out.1.lt _ hm; omega
       have y0 := m3.cell0
       have HS := Lib.hid (And.intro m3 m4)
       clear m1 m3 m4))
  have hhn := HHN.out
  have hu := Tryd.underlying64
  have hin : (Tryd.prog.info? 64).map (·.size) = some (links ah).length := by rw [links_len]; kernel_rfl
  go_region_held3 (fun wx => wx.rangeAt w1.heap.size 0 (links ah)) (first | exact HK.out | exact K4.out | exact K5.out | exact K6.out)
    (first
      | (go_at_call 24; (with_reducible refine (clone_any _ _ HKK).mono ?_); rintro e w4 ⟨rfl, hb4⟩; have K4 : Hid (w4.rangeAt w1.heap.size 0 (links ah)) := range_below (W := W) (B := W.heap.size) HK.out ((below_drew _ W).trans hb4) hM.out; have HS4 := Lib.hid (And.intro (HS.out.1.below ((below_drew _ W).trans hb4)) (HS.out.2.on ((below_drew _ W).trans hb4))))
      | (go_at_call 24; (with_reducible refine (clone_any _ _ HX).mono ?_); rintro e w5 ⟨rfl, hb5⟩; have K5 : Hid (w5.rangeAt w1.heap.size 0 (links ah)) := range_below K4.out hb5 (Nat.lt_of_lt_of_le hM.out hb4.size); have HS5 := Lib.hid (And.intro (HS4.out.1.below hb5) (HS4.out.2.on hb5)))
      | (go_at_call 40; (with_reducible refine (raise_lit HS5.out.1 k x HAH hn h1 h12 HFW.out hk hx).mono ?_); rintro e w6 ⟨rfl, v6, hm6, mv6⟩; have K6 : Hid (w6.rangeAt w1.heap.size 0 (links ah)) := range_moves K5.out mv6 (Nat.lt_of_lt_of_le (Nat.lt_of_lt_of_le hM.out hb4.size) hb5.size) hMF.out; have HS6 := Lib.hid (And.intro (ins_at HS5.out.1 hm6 HT.out h1 h12 hk hx) (HS5.out.2.trans mv6)); clear hm6 mv6))
  all_goals go_wp2
  all_goals
    go_ret
    exact ⟨rfl, v6, _, _, HS6.out.1, HS6.out.2⟩
end
end Go.Proofs.YtadejeoiffaimaaDoor.Sk
