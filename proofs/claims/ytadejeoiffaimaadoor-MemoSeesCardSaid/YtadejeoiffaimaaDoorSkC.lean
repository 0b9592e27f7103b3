/-
  A skip list's calls that look for keys: the Go text walked. Conditions: as each theorem states.
-/
import Derived.Test.YtadejeoiffaimaaDoorSkB
namespace Go.Proofs.YtadejeoiffaimaaDoor.Sk
open Go.RowKit

theorem list_steps (v : Value) (f : Nat → Nat) (b s x : Int) : (listCells v f b s).toArray.setIfInBounds 14 (.int .i64 x) = (listCells v f b x).toArray := by
  simp [listCells, links, List.range_succ]
section
variable {w : World} {l : Nat} {v : Value} {s : Ls} {bytes steps : Int}
theorem SkAt.steps_ (h : SkAt w l v s bytes steps) (x : Int) : SkAt (w.setCell ⟨l, 14, none⟩ (.int .i64 x)) l v s bytes x ∧ Moves w (feet l v) (w.setCell ⟨l, 14, none⟩ (.int .i64 x)) (feet l v) := by
  refine ⟨⟨(heap_set h.box 14 _).trans (by rw [list_steps]), ownsRow_kept h.row (fun g hg => Below.heap_setCell _ _ _ _ (fun e => h.apart (by rw [hg, e]))), h.ok, h.few, h.apart, h.fit, h.tot⟩, Only.of_grown (grown_set w l 14 _) (fun k e => by injection e with e; subst e; simp [feet]), fun k hk => .inl hk⟩
theorem SkAt.free (h : SkAt w l v s bytes steps) (j : Nat) : w.frozen? ⟨l, j, none⟩ = false := free_in h.box j
end
theorem Moves.row {w W : World} {fp fp' : List Nat} (h : Moves w fp W fp') {g : Nat} (hg : w.heap.size ≤ g) (c : Array Value) : Moves w fp (W.setRow g c) fp' :=
  ⟨⟨h.only.os, h.only.tape, h.only.output, by simpa [World.setRow] using h.only.size, fun k hk hn => (heap_setRow _ _ _ _ (by omega)).trans (h.only.block k hk hn)⟩, h.fresh⟩
theorem Moves.new {w W : World} {fp fp' : List Nat} (h : Moves w fp W fp') (o : Obj) : Moves w fp (W.alloc o) fp' :=
  ⟨⟨h.only.os, h.only.tape, h.only.output, by have := h.only.size; simp; omega, fun k hk hn => (Below.heap_alloc _ _ _ (by have := h.only.size; omega)).trans (h.only.block k hk hn)⟩, h.fresh⟩
theorem Moves.on {w W W' : World} {fp fp' : List Nat} (h : Moves w fp W fp') (hb : Below W.heap.size W W') : Moves w fp W' fp' := h.trans (Moves.of_below hb)
theorem Moves.onTo {w W W' : World} {fp fp' : List Nat} (h : Moves w fp W fp') {B : Nat} (hB : w.heap.size ≤ B) (hb : Below B W W') : Moves w fp W' fp' :=
  ⟨⟨hb.os.trans h.only.os, hb.tape.trans h.only.tape, hb.output.trans h.only.output, Nat.le_trans h.only.size hb.size, fun k hk hn => (hb.block k (by omega)).trans (h.only.block k hk hn)⟩, h.fresh⟩
def SearchPost (l : Nat) (v : Value) (s : Ls) (bytes : Int) (k : ByteArray) (w : World) (e : Ending) (w' : World) : Prop :=
  ∃ st : Nat, st ≤ s.n + 12 ∧ e = .returned (spotV (prv s.H s.S (pos s k)) (nxt s.H s.S (pos s k) 0) (thereB s k (nxt s.H s.S (pos s k) 0)) st) ∧ SkAt w' l v s bytes st ∧ Moves w (feet l v) w' (feet l v)
/-- the middle of a search: the spot's copy is laid -/
theorem search_mid {w w1 : World} {l : Nat} {v : Value} {s : Ls} {bytes steps : Int} {Z cs : Array Value} {T : TypeId} (h : SkAt w l v s bytes steps) (hb : Below (w.alloc (.cells Z T)).heap.size (w.alloc (.cells Z T)) w1) :
    ((w1.alloc (.cells Z T)).setRow w1.heap.size cs).heap[w1.heap.size]? = some (.cells cs T (0, 0)) ∧ ((w1.alloc (.cells Z T)).setRow w1.heap.size cs).heap[w.heap.size]? = some (.cells Z T (0, 0)) ∧
    SkAt ((w1.alloc (.cells Z T)).setRow w1.heap.size cs) l v s bytes steps ∧ Below w.heap.size w ((w1.alloc (.cells Z T)).setRow w1.heap.size cs) := by
  have hs := hb.size
  rw [World.size_alloc] at hs
  have hB : Below w.heap.size w ((w1.alloc (.cells Z T)).setRow w1.heap.size cs) :=
    below_setRow ((((Below.refl _ w).alloc (Nat.le_refl _) _).trans (hb.mono (by simp))).alloc (by omega) _) (by omega) _
  refine ⟨heap_setRow_at (heap_alloc_new w1 _), ?_, h.below hB, hB⟩
  rw [heap_setRow _ _ _ _ (by omega), Below.heap_alloc _ _ _ (by omega)]
  exact (hb.block _ (by simp)).trans (heap_alloc_new w _)
set_option maxRecDepth 100000 in
set_option maxHeartbeats 1000000 in
theorem search_any {w : World} {l : Nat} {v : Value} {s : Ls} {bytes steps : Int} (h : SkAt w l v s bytes steps) (k : ByteArray) :
    Calls Tryd.prog 38 #[.pointer (some ⟨l, 0, none⟩), .string k] w (SearchPost l v s bytes k w) := by
  have HH := Lib.hid h
  clear h
  have hl : l < w.heap.size := HH.out.lt l (by simp [feet])
  go_enter Tryd.func38, Tryd.ntmps38
  go_wp2_with (first
    | (go_at_call 53; (with_reducible refine (seek_any (HH.out.below ((Below.refl _ w).alloc (Nat.le_refl _) _)) k).mono ?_); rintro e w1 ⟨st, hst, rfl, hb⟩; have HB := Lib.hid hb; clear hb)
    | (with_reducible refine wpList_store_row (o := ⟨none, .store 74 (.tmp 5) (.tmp 8), _, _, _, _⟩) ?_ 74 (.tmp 5) (.tmp 8) ?_ w1.heap.size (spotCells (prv s.H s.S (pos s k)) (nxt s.H s.S (pos s k) 0) (thereB s k (nxt s.H s.S (pos s k) 0)) st).toArray ?_ ?_ 74 _ (heap_alloc_new w1 _) (spot_info _ _ _ _) (spot_size _ _ _ _).symm (spot_one _ _ _ _) ?_
       · rfl
       · rfl
       · rfl
       · rfl
       obtain ⟨m1, m2, m3, m4⟩ := search_mid (cs := (spotCells (prv s.H s.S (pos s k)) (nxt s.H s.S (pos s k) 0) (thereB s k (nxt s.H s.S (pos s k) 0)) st).toArray) HH.out HB.out
       generalize ((w1.alloc _).setRow _ _) = W at m1 m2 m3 m4 ⊢
       have x14 := cell_in m1 14 (.int .i64 (st : Nat)) rfl
       have y14 := m3.cell14
       have yf := m3.free 14
       have hlM : l < w1.heap.size := by have := HB.out.size; simp at this; omega
       have HS := Lib.hid (m3.steps_ (st : Nat))
       have HM := Lib.hid m4
       have g1 : Hid ((W.setCell ⟨l, 14, none⟩ (.int .i64 (st : Nat))).heap[w1.heap.size]? = some (.cells (spotCells (prv s.H s.S (pos s k)) (nxt s.H s.S (pos s k) 0) (thereB s k (nxt s.H s.S (pos s k) 0)) st).toArray 74 (0, 0))) := (Below.heap_setCell _ _ _ _ (by show w1.heap.size ≠ l; omega)).trans m1
       have g2 : Hid ((W.setCell ⟨l, 14, none⟩ (.int .i64 (st : Nat))).heap[w.heap.size]? = _) := (Below.heap_setCell _ _ _ _ (by show w.heap.size ≠ l; omega)).trans m2
       clear m1 m2 m3 m4 HB)
    | (with_reducible refine wpList_load_row (o := ⟨some 14, .load 74 (.tmp 5), _, _, _, _⟩) ?_ 74 (.tmp 5) ?_ w1.heap.size ?_ 74 _ (0, 0) _ g1.out Tryd.underlying74 ?_ (spot_info _ _ _ _) ?_
       · rfl
       · rfl
       · rfl
       · rfl)
    | (with_reducible refine wpList_store_row (o := ⟨none, .store 74 (.tmp 4) (.tmp 14), _, _, _, _⟩) ?_ 74 (.tmp 4) (.tmp 14) ?_ w.heap.size (spotCells (prv s.H s.S (pos s k)) (nxt s.H s.S (pos s k) 0) (thereB s k (nxt s.H s.S (pos s k) 0)) st).toArray ?_ ?_ 74 _ g2.out (spot_info _ _ _ _) (spot_size _ _ _ _).symm (spot_one _ _ _ _) ?_
       · rfl
       · rfl
       · rfl
       · rfl))
  refine bodyPost_ret (v := .agg (spotCells (prv s.H s.S (pos s k)) (nxt s.H s.S (pos s k) 0) (thereB s k (nxt s.H s.S (pos s k) 0)) st).toArray) ?_ rfl ⟨st, hst, rfl, ?_, ?_⟩
  · exact results_cell_row rfl _ _ w.heap.size 74 _ (0, 0) _ rfl (heap_setRow_at g2.out) Tryd.underlying74 rfl (spot_info _ _ _ _)
  · exact HS.out.1.kept (fun j hj => heap_setRow _ _ _ _ (by have := HH.out.lt j hj; omega))
  · exact ((Moves.of_below HM.out).trans HS.out.2).row (Nat.le_refl _) _
theorem prv_bottom {s : Ls} (ok : Ok s) {a : Nat} (ha : a ≤ s.n) : prv s.H s.S a 0 = atp s.S a := by
  have hl := ok.len
  refine prv_to (Nat.le_refl _) (by omega) (fun i hi h1 h2 => by omega) ?_
  by_cases e : a = 0
  · exact .inl e
  · exact .inr (by have := (ok.high _ (atp_mem e (by omega))).1; omega)
theorem nxt_bottom {s : Ls} (ok : Ok s) {a : Nat} (ha : a ≤ s.n) : nxt s.H s.S a 0 = if h : a < s.S.length then s.S[a] else 0 := by
  split
  · next h => exact nxt_hit h (by have := (ok.high _ (List.getElem_mem h)).1; omega)
  · next h => exact nxt_end (by omega)
def there (s : Ls) (k : ByteArray) : Bool := thereB s k (nxt s.H s.S (pos s k) 0)
theorem there_yes {s : Ls} (ok : Ok s) {k : ByteArray} (h : there s k = true) : ∃ hp : pos s k < s.S.length, nxt s.H s.S (pos s k) 0 = s.S[pos s k] ∧ s.K s.S[pos s k] = k := by
  unfold there thereB at h
  have h' := of_decide_eq_true h
  have hp := pos_le' s k
  rw [nxt_bottom ok (by rw [← ok.len]; exact hp)] at h' ⊢
  split at h'
  · next hlt => exact ⟨hlt, by rw [dif_pos hlt], h'.2⟩
  · exact absurd rfl h'.1
theorem there_no {s : Ls} (ok : Ok s) {k : ByteArray} (h : there s k = false) : ∀ p ∈ s.S, s.K p ≠ k := fun p hp e => by
  unfold there thereB at h
  have h' := of_decide_eq_false h
  obtain ⟨i, hi, rfl⟩ := List.mem_iff_getElem.1 hp
  have h1 : pos s k ≤ i := by
    rcases Nat.lt_or_ge i (pos s k) with h1 | h1
    · have := below_pos s k i hi h1; rw [e, lt_irr] at this; cases this
    · exact h1
  have h2 : ¬ pos s k < i := fun h2 => by
    have h3 := (List.pairwise_iff_getElem.1 ok.sorted) (pos s k) i (by omega) hi h2
    have h4 := above_pos ok.sorted k (pos s k) (by omega) (Nat.le_refl _)
    rw [e] at h3; rw [h3] at h4; cases h4
  have h3 : pos s k = i := by omega
  rw [nxt_bottom ok (by rw [← ok.len]; omega), dif_pos (by omega)] at h'
  refine h' ⟨?_, ?_⟩
  · have := (ok.mem _ hp).1
    simp only [h3]; omega
  · simp only [h3]; exact e
/-! pairs, clones -/
theorem clone_any (s : ByteArray) (w : World) (hs : Hid (s.size ≤ 281474976710656)) :
    Calls Tryd.prog 24 #[.string s] w fun e w' => e = .returned (.string s) ∧ Below w.heap.size w w' := by
  go_enter Tryd.func24, Tryd.ntmps24
  go_wp2_with (go_at_call 42; with_reducible refine (Tryd.stringslite_Clone s _ hs.out).mono ?_; rintro e w1 ⟨rfl, hb⟩)
  go_ret
  exact ⟨rfl, hb⟩
end Go.Proofs.YtadejeoiffaimaaDoor.Sk
