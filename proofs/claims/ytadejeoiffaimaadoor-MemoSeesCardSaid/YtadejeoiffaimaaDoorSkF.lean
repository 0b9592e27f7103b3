/-
  A tower more: the Go text walked. Conditions: as each theorem states.
-/
import Derived.Test.YtadejeoiffaimaaDoorSkE
import Derived.Deep.RegionLaw
import Derived.RegionTactic
import Derived.ChangeAlike
namespace Go.Proofs.YtadejeoiffaimaaDoor.Sk
open Go.RowKit

/-- links on the levels below i are turned to a new place -/
def nxI (nx : Nat → Nat → Nat) (ah : Nat → Nat) (N i : Nat) : Nat → Nat → Nat := fun p lv => if lv < i ∧ p = ah lv then N else nx p lv
theorem nxI_zero (nx : Nat → Nat → Nat) (ah : Nat → Nat) (N : Nat) : nxI nx ah N 0 = nx := by funext p lv; simp [nxI]
theorem nxI_succ (nx : Nat → Nat → Nat) (ah : Nat → Nat) (N i : Nat) : upd2 (nxI nx ah N i) (ah i) i N = nxI nx ah N (i + 1) := by
  funext p lv
  unfold upd2 nxI
  by_cases e : lv = i
  · subst e
    by_cases e2 : p = ah lv
    · rw [if_pos ⟨e2, rfl⟩, if_pos ⟨by omega, e2⟩]
    · rw [if_neg (fun h => e2 h.1), if_neg (fun h => e2 h.2), if_neg (fun h => e2 h.2)]
  · rw [if_neg (fun h => e h.2)]
    by_cases e2 : lv < i
    · simp [e2, show lv < i + 1 by omega]
    · rw [if_neg (fun h => e2 h.1), if_neg (fun h => by have := h.1; omega)]
theorem nxI_here (nx : Nat → Nat → Nat) (ah : Nat → Nat) (N i : Nat) : nxI nx ah N i (ah i) i = nx (ah i) i := by
  unfold nxI; rw [if_neg (fun h => by have := h.1; omega)]
/-- the new tower's links, those below i laid -/
def tnI (nx : Nat → Nat → Nat) (ah : Nat → Nat) (i : Nat) : Nat → Nat := fun lv => if lv < i then nx (ah lv) lv else 0
theorem tnI_succ (nx : Nat → Nat → Nat) (ah : Nat → Nat) (i : Nat) : upd (tnI nx ah i) i (nx (ah i) i) = tnI nx ah (i + 1) := by
  funext lv
  unfold upd tnI
  by_cases e : lv = i
  · subst e; rw [if_pos rfl, if_pos (by omega)]
  · rw [if_neg e]
    by_cases e2 : lv < i
    · rw [if_pos e2, if_pos (by omega)]
    · rw [if_neg e2, if_neg (by omega)]
theorem tnI_zero (nx : Nat → Nat → Nat) (ah : Nat → Nat) : tnI nx ah 0 = fun _ => 0 := by funext lv; simp [tnI]
theorem Moves.cell {w W : World} {fp fp' : List Nat} (h : Moves w fp W fp') {g : Nat} (hg : w.heap.size ≤ g ∨ g ∈ fp) (j : Nat) (x : Value) : Moves w fp (W.setCell ⟨g, j, none⟩ x) fp' :=
  ⟨⟨h.only.os, h.only.tape, h.only.output, by simpa [World.setCell] using h.only.size, fun k hk hn => (Below.heap_setCell _ _ _ _ (by
    show k ≠ g
    intro e; subst e
    rcases hg with hg | hg
    · omega
    · exact hn hg)).trans (h.only.block k hk hn)⟩, h.fresh⟩
theorem infoT : (Tryd.prog.info? 79).map (fun i => (i.zero, i.size, i.bytes)) = some (some (.agg (twCells ⟨#[]⟩ ⟨#[]⟩ 0 (fun _ => 0)).toArray), 15, 88) := by kernel_rfl
theorem tw_one (k x : ByteArray) (h : Nat) (f : Nat → Nat) : ∀ u ∈ twCells k x h f, u.oneCell' = true := by
  intro u hu
  unfold twCells links at hu
  simp only [List.mem_cons, List.mem_map] at hu
  rcases hu with rfl | rfl | rfl | ⟨j, _, rfl⟩ <;> rfl
theorem flat_congr {α β : Type} {f g : α → List β} : ∀ {l : List α}, (∀ x ∈ l, f x = g x) → l.flatMap f = l.flatMap g
  | [], _ => rfl
  | x :: l, h => by
    rw [List.flatMap_cons, List.flatMap_cons, h x (by simp), flat_congr (fun y hy => h y (by simp [hy]))]
theorem list_set0 (v v' : Value) (f : Nat → Nat) (b s : Int) : (listCells v f b s).toArray.setIfInBounds 0 v' = (listCells v' f b s).toArray := by simp [listCells]
theorem list_set13 (v : Value) (f : Nat → Nat) (b s x : Int) : (listCells v f b s).toArray.setIfInBounds 13 (.int .i64 x) = (listCells v f x s).toArray := by
  simp [listCells, links, List.range_succ]
theorem ins_nx {s : Ls} {ah : Nat → Nat} {k x : ByteArray} {h : Nat} (ha : prv s.H s.S (pos s k) = ah) : (∀ p, p ≠ s.n + 1 → (ins s k x h).nx p = nxI s.nx ah (s.n + 1) h p) ∧ (ins s k x h).nx (s.n + 1) = tnI s.nx ah h := by
  subst ha
  constructor
  · intro p hp
    funext lv
    show (if p = s.n + 1 then _ else _) = _
    rw [if_neg hp]; rfl
  · funext lv
    show (if s.n + 1 = s.n + 1 then _ else _) = _
    rw [if_pos rfl]; rfl
theorem ins_arena {s : Ls} {ah : Nat → Nat} {k x : ByteArray} {h : Nat} (ha : prv s.H s.S (pos s k) = ah) : arena (ins s k x h) = arena { s with nx := nxI s.nx ah (s.n + 1) h } ++ twCells k x h (tnI s.nx ah h) := by
  obtain ⟨h1, h2⟩ := ins_nx (x := x) (h := h) ha
  show (List.range (s.n + 1)).flatMap (fun i => twCells (upd s.K (s.n + 1) k (i + 1)) (upd s.V (s.n + 1) x (i + 1)) (upd s.H (s.n + 1) h (i + 1)) ((ins s k x h).nx (i + 1))) = _
  rw [List.range_succ, List.flatMap_append]
  congr 1
  · unfold arena
    show List.flatMap _ (List.range s.n) = List.flatMap _ (List.range s.n)
    refine flat_congr fun i hi => ?_
    have hi' := List.mem_range.1 hi
    rw [upd_ne _ _ (by omega), upd_ne _ _ (by omega), upd_ne _ _ (by omega), h1 _ (by omega)]
  · simp only [List.flatMap_cons, List.flatMap_nil, List.append_nil]
    rw [upd_same, upd_same, upd_same, h2]
structure RaiseW (w0 : World) (B : Nat) (w : World) (l : Nat) (v : Value) (s : Ls) (bytes steps : Int) (ah : Nat → Nat) (k x : ByteArray) (h i : Nat) : Prop where
  mem : SkMem w l v { s with nx := nxI s.nx ah (s.n + 1) i } bytes steps
  box : w.heap[B]? = some (.cells (links ah).toArray 64 (0, 0))
  tw : w.heap[B + 1]? = some (.cells (twCells k x h (tnI s.nx ah i)).toArray 79 (0, 0))
  moves : Moves w0 (feet l v) w (feet l v)
  size : w0.heap.size ≤ B
theorem tw_set (k x : ByteArray) (h : Nat) (f : Nat → Nat) (y : Nat) {j : Nat} (hj : j < 12) : (twCells k x h f).toArray.setIfInBounds (3 + j) (.int .i32 (y : Nat)) = (twCells k x h (upd f j y)).toArray := by
  rw [List.setIfInBounds_toArray]
  unfold twCells
  rw [show 3 + j = j + 1 + 1 + 1 by omega, List.set_cons_succ, List.set_cons_succ, List.set_cons_succ, links_set _ _ hj]
theorem raise_turn {w0 w : World} {B l : Nat} {v : Value} {s : Ls} {bytes steps : Int} {ah : Nat → Nat} {k x : ByteArray} {h i b o : Nat} (hi : i < 12) (R : RaiseW w0 B w l v s bytes steps ah k x h i) (hb : b ∈ feet l v)
    (hm : ∀ (W : World) (y : Nat), SkMem W l v { s with nx := nxI s.nx ah (s.n + 1) i } bytes steps → SkMem (W.setCell ⟨b, o + i, none⟩ (.int .i32 (y : Nat))) l v { s with nx := upd2 (nxI s.nx ah (s.n + 1) i) (ah i) i y } bytes steps)
    (hfeet : ∀ k ∈ feet l v, k < w0.heap.size) {y : Int} (hy : y = ((s.n + 1 : Nat) : Int)) :
    RaiseW w0 B ((w.setCell ⟨B + 1, 3 + i, none⟩ (.int .i32 (s.nx (ah i) i : Nat))).setCell ⟨b, o + i, none⟩ (.int .i32 y)) l v s bytes steps ah k x h (i + 1) := by
  subst hy
  have hb0 := hfeet b hb
  have hs := R.size
  refine ⟨?_, ?_, ?_, ?_, hs⟩
  · have := hm (w.setCell ⟨B + 1, 3 + i, none⟩ (.int .i32 (s.nx (ah i) i : Nat))) (s.n + 1) (R.mem.kept (fun j hj => Below.heap_setCell _ _ _ _ (by have := hfeet j hj; show j ≠ B + 1; omega)))
    rwa [nxI_succ] at this
  · exact (Below.heap_setCell _ _ _ _ (by show B ≠ b; omega)).trans ((Below.heap_setCell _ _ _ _ (by show B ≠ B + 1; omega)).trans R.box)
  · refine (Below.heap_setCell _ _ _ _ (by show B + 1 ≠ b; omega)).trans ((heap_set R.tw (3 + i) _).trans ?_)
    rw [tw_set _ _ _ _ _ hi, tnI_succ]
  · exact (R.moves.cell (.inl (by omega)) _ _).cell (.inr hb) _ _
/-- the tower is appended, and its bytes are counted -/
theorem raise_end {w wr w4 : World} {B l g cap : Nat} {v : Value} {s : Ls} {bytes steps : Int} {ah : Nat → Nat} {k x : ByteArray} {h : Nat} {W0 : World} (hB0 : Below wr.heap.size wr W0) (ha : prv s.H s.S (pos s k) = ah) (R : RaiseW w B wr l v s bytes steps ah k x h h) (hfeet : ∀ k ∈ feet l v, k < w.heap.size) (hfew : s.n < 65536)
    (hown : w4.ownsRow 0 79 15 (.slice (some ⟨g, 0, none⟩) (s.n + 1) cap) (s.n + 1) (arena { s with nx := nxI s.nx ah (s.n + 1) h } ++ twCells k x h (tnI s.nx ah h)))
    (hgrow : W0.grownBy w4 v.ownBlock) (hwhere : v.ownBlock = some g ∨ g = wr.heap.size + 1) (y : Int) :
    SkMem ((w4.setCell ⟨l, 0, none⟩ (.slice (some ⟨g, 0, none⟩) (s.n + 1) cap)).setCell ⟨l, 13, none⟩ (.int .i64 y)) l (.slice (some ⟨g, 0, none⟩) (s.n + 1) cap) (ins s k x h) y steps ∧
    Moves w (feet l v) ((w4.setCell ⟨l, 0, none⟩ (.slice (some ⟨g, 0, none⟩) (s.n + 1) cap)).setCell ⟨l, 13, none⟩ (.int .i64 y)) (feet l (.slice (some ⟨g, 0, none⟩) (s.n + 1) cap)) := by
  have hl : l < w.heap.size := hfeet l (by simp [feet])
  have hs := R.moves.only.size
  have hgl : g ≠ l := by
    rcases hwhere with h1 | h1
    · intro e; exact R.mem.apart (by rw [h1, e])
    · omega
  have hw4 : w4.heap[l]? = wr.heap[l]? := (hgrow.block l (by have := hB0.size; omega) (Ne.symm R.mem.apart)).trans (hB0.block l (by omega))
  refine ⟨⟨?_, ?_, hfew, by simpa [Value.ownBlock] using hgl⟩, ?_, ?_⟩
  · refine (heap_set (heap_set (hw4.trans R.mem.box) 0 _) 13 _).trans ?_
    rw [list_set0, list_set13, (ins_nx (x := x) (h := h) ha).1 0 (by omega)]
  · rw [ins_arena ha]
    exact ownsRow_kept hown (fun g' hg' => by
      have e : g = g' := by simpa [Value.ownBlock] using hg'
      subst e
      exact (Below.heap_setCell _ _ _ _ hgl).trans (Below.heap_setCell _ _ _ _ hgl))
  · have hon : Only (feet l v) wr w4 := (Only.of_below hB0).trans (Only.of_grown hgrow (fun j e => by simp [feet, e]))
    exact (((R.moves.trans ⟨hon, fun j hj => .inl hj⟩).cell (.inr (by simp [feet])) 0 _).cell (.inr (by simp [feet])) 13 _).only
  · intro j hj
    unfold feet at hj ⊢
    rcases List.mem_cons.1 hj with rfl | hj
    · exact .inl (by simp)
    · have e : j = g := by simpa [Value.ownBlock] using hj
      subst e
      rcases hwhere with h1 | h1
      · exact .inl (by simp [h1])
      · exact .inr (by omega)
def RaisePost (w : World) (l : Nat) (v : Value) (s : Ls) (k x : ByteArray) (h : Nat) (y steps : Int) (e : Ending) (w' : World) : Prop :=
  e = .returned (.tuple #[]) ∧ ∃ v', SkMem w' l v' (ins s k x h) y steps ∧ Moves w (feet l v) w' (feet l v')
def RaiseRel (w0 : World) (B l : Nat) (v : Value) (s : Ls) (bytes steps : Int) (ah : Nat → Nat) (k x : ByteArray) (h : Nat) (c : Value) (w : World) : Prop :=
  ∃ i : Nat, i ≤ h ∧ c = .int .i64 (i : Nat) ∧ RaiseW w0 B w l v s bytes steps ah k x h i
set_option maxRecDepth 100000 in
set_option maxHeartbeats 2000000 in
theorem raise_any {w : World} {l : Nat} {v : Value} {s : Ls} {bytes steps : Int} (hA : SkAt w l v s bytes steps) (k x : ByteArray) {ah : Nat → Nat} (ha : Hid (prv s.H s.S (pos s k) = ah)) (h : Nat) (h1 : 1 ≤ h) (h12 : h ≤ 12) (hfew : s.n < 65536) (hb0 : 0 ≤ bytes) (hb1 : bytes ≤ 1000000000000000000) (hk : k.size ≤ 1099511627776) (hx : x.size ≤ 1099511627776) :
    Calls Tryd.prog 40 #[.pointer (some ⟨l, 0, none⟩), .agg (links ah).toArray, .agg (twCells k x h (fun _ => 0)).toArray] w (RaisePost w l v s k x h (bytes + ((k.size : Int) + (x.size : Int))) steps) := by
  have hah : ∀ j, j < 12 → ah j ≤ s.n := fun j hj => by
    obtain ⟨p, hp1, _, hp3, _⟩ := prv_at s.H s.S j (pos s k) (pos_le' s k)
    rw [← ha.out, hp3]
    exact atp_le hA.ok (by have := pos_le' s k; have := hA.ok.len; omega)
  have hsl : ∃ a c, v = .slice a s.n c := by
    rcases hA.row.2 with ⟨hv, h0⟩ | ⟨g, cap, cur, hv, _⟩
    · exact ⟨none, 0, by rw [hv, h0]⟩
    · exact ⟨_, _, hv⟩
  obtain ⟨a, c, rfl⟩ := hsl
  have hl : l < w.heap.size := hA.lt l (by simp [feet])
  have hc0 := hA.cell0
  have HH := Lib.hid hA
  clear hA
  have ht2 : (twCells k x h fun _ => 0)[2]? = some (.int .i64 (h : Nat)) := rfl
  go_enter Tryd.func40, Tryd.ntmps40
  go_wp2
  have R0 : Hid (RaiseW w w.heap.size ((w.alloc (.cells (links ah).toArray 64)).alloc (.cells (twCells k x h fun _ => 0).toArray 79)) l (.slice a s.n c) s bytes steps ah k x h 0) := by
    have hB : Below w.heap.size w ((w.alloc (.cells (links ah).toArray 64)).alloc (.cells (twCells k x h fun _ => 0).toArray 79)) := ((Below.refl _ w).alloc (Nat.le_refl _) _).alloc (by simp) _
    refine ⟨?_, (Below.heap_alloc _ _ _ (by simp)).trans (heap_alloc_new w _), ?_, Moves.of_below hB, Nat.le_refl _⟩
    · rw [nxI_zero]; exact (HH.out.below hB).mem
    · have := heap_alloc_new (w.alloc (.cells (links ah).toArray 64)) (.cells (twCells k x h fun _ => 0).toArray 79)
      rw [World.size_alloc] at this
      rw [tnI_zero]; exact this
  go_loopw [18] (RaiseRel w w.heap.size l (.slice a s.n c) s bytes steps ah k x h) (fun c _ => h - (intOf c).toNat)
  case atStart => exact ⟨0, Nat.zero_le _, rfl, R0.out⟩
  case round =>
    obtain ⟨i, hi, rfl, R⟩ := hrel
    by_cases hih : i < h
    · obtain ⟨b, o, hN, hb, hL⟩ := link_turn R.mem (ah i) (hah i (by omega))
      obtain ⟨c1, c2, c3⟩ := hL i (by omega)
      replace c1 : wr.cell? ⟨b, o + i, none⟩ = some (.int .i32 (s.nx (ah i) i : Nat)) := by
        have := c1
        rwa [show ({ s with nx := nxI s.nx ah (s.n + 1) i } : Ls).nx (ah i) i = s.nx (ah i) i from nxI_here _ _ _ _] at this
      have d1 := cell_in R.box i (.int .i32 (ah i : Nat)) (by rw [List.getElem?_toArray, links_at ah (by omega)])
      have d2 := cell_in R.tw (3 + i) (.int .i32 (tnI s.nx ah i i : Nat)) (by rw [List.getElem?_toArray, tw_link _ _ _ _ (by omega)])
      have d3 := free_in R.tw (3 + i)
      have hbl : b < w.heap.size := HH.out.lt b hb
      have hi12 : i < 12 := by omega
      have HR := Lib.hid (raise_turn hi12 R hb c3 HH.out.lt (y := (s.n : Int) + 1) (by omega))
      have HN := Lib.hid hN
      clear R hN hL c3 R0 HH hah
      go_wp2_with (first | (go_at_call 54; (with_reducible refine (HN.out).mono ?_); rintro e w2 ⟨rfl, rfl⟩))
      go_roundw
      case rel => exact ⟨i + 1, by omega, by go_num, HR.out⟩
      case measure => simp [intOf]; omega
    · obtain rfl : h = i := by omega
      have hcl := R.mem.cell0
      have hfl := free_in R.mem.box 0
      have hfl13 := free_in R.mem.box 13
      have hc13 := R.mem.cell13
      have q0 := cell_in R.tw 0 (.string k) rfl
      have q1 := cell_in R.tw 1 (.string x) rfl
      have q2 := cell_in R.tw 2 (.int .i64 (h : Nat)) rfl
      have q3 := cell_in R.tw 3 (.int .i32 (tnI s.nx ah h 0 : Nat)) rfl
      have q4 := cell_in R.tw 4 (.int .i32 (tnI s.nx ah h 1 : Nat)) rfl
      have q5 := cell_in R.tw 5 (.int .i32 (tnI s.nx ah h 2 : Nat)) rfl
      have q6 := cell_in R.tw 6 (.int .i32 (tnI s.nx ah h 3 : Nat)) rfl
      have q7 := cell_in R.tw 7 (.int .i32 (tnI s.nx ah h 4 : Nat)) rfl
      have q8 := cell_in R.tw 8 (.int .i32 (tnI s.nx ah h 5 : Nat)) rfl
      have q9 := cell_in R.tw 9 (.int .i32 (tnI s.nx ah h 6 : Nat)) rfl
      have q10 := cell_in R.tw 10 (.int .i32 (tnI s.nx ah h 7 : Nat)) rfl
      have q11 := cell_in R.tw 11 (.int .i32 (tnI s.nx ah h 8 : Nat)) rfl
      have q12 := cell_in R.tw 12 (.int .i32 (tnI s.nx ah h 9 : Nat)) rfl
      have q13 := cell_in R.tw 13 (.int .i32 (tnI s.nx ah h 10 : Nat)) rfl
      have q14 := cell_in R.tw 14 (.int .i32 (tnI s.nx ah h 11 : Nat)) rfl
      have HK := Lib.hid (show (fun wx => wx.cell? ⟨l, 0, none⟩ = some (.slice a s.n c) ∧ wx.cell? ⟨w.heap.size + 1, 0, none⟩ = some (.string k) ∧ wx.cell? ⟨w.heap.size + 1, 1, none⟩ = some (.string x) ∧ wx.cell? ⟨w.heap.size + 1, 2, none⟩ = some (.int .i64 (h : Nat)) ∧ wx.cell? ⟨w.heap.size + 1, 3, none⟩ = some (.int .i32 (tnI s.nx ah h 0 : Nat)) ∧ wx.cell? ⟨w.heap.size + 1, 4, none⟩ = some (.int .i32 (tnI s.nx ah h 1 : Nat)) ∧ wx.cell? ⟨w.heap.size + 1, 5, none⟩ = some (.int .i32 (tnI s.nx ah h 2 : Nat)) ∧ wx.cell? ⟨w.heap.size + 1, 6, none⟩ = some (.int .i32 (tnI s.nx ah h 3 : Nat)) ∧ wx.cell? ⟨w.heap.size + 1, 7, none⟩ = some (.int .i32 (tnI s.nx ah h 4 : Nat)) ∧ wx.cell? ⟨w.heap.size + 1, 8, none⟩ = some (.int .i32 (tnI s.nx ah h 5 : Nat)) ∧ wx.cell? ⟨w.heap.size + 1, 9, none⟩ = some (.int .i32 (tnI s.nx ah h 6 : Nat)) ∧ wx.cell? ⟨w.heap.size + 1, 10, none⟩ = some (.int .i32 (tnI s.nx ah h 7 : Nat)) ∧ wx.cell? ⟨w.heap.size + 1, 11, none⟩ = some (.int .i32 (tnI s.nx ah h 8 : Nat)) ∧ wx.cell? ⟨w.heap.size + 1, 12, none⟩ = some (.int .i32 (tnI s.nx ah h 9 : Nat)) ∧ wx.cell? ⟨w.heap.size + 1, 13, none⟩ = some (.int .i32 (tnI s.nx ah h 10 : Nat)) ∧ wx.cell? ⟨w.heap.size + 1, 14, none⟩ = some (.int .i32 (tnI s.nx ah h 11 : Nat))) wr from ⟨hcl, q0, q1, q2, q3, q4, q5, q6, q7, q8, q9, q10, q11, q12, q13, q14⟩)
      have hwl : w.heap.size + 1 < wr.heap.size := (Array.getElem?_eq_some_iff.1 R.tw).1
      have hl2 : l < wr.heap.size := by omega
      have hne1 : Hid (some l ≠ (Value.slice a s.n c).ownBlock) := Ne.symm R.mem.apart
      have hne2 : Hid (some (w.heap.size + 1) ≠ (Value.slice a s.n c).ownBlock) := fun e => by
        have := HH.out.lt (w.heap.size + 1) (by simp [feet, ← e])
        omega
      have HR := Lib.hid R
      obtain ⟨i0, hi0, hz0, hz1, hz2⟩ := info_parts infoT
      have HI := Lib.hid (And.intro hi0 (And.intro hz0 (And.intro hz1 hz2)))
      clear R R0 hi0 hz0 hz1 hz2
      go_wp2
      go_region_law (first
          | (refine step_append_lies _ rfl (.tmp 43) (.tmp 45) 61 rfl 0 79 i0 _ 15 88 Tryd.underlying61 HI.out.1 HI.out.2.1 HI.out.2.2.1 HI.out.2.2.2 rfl (by decide) (.slice a s.n c) s.n (arena { s with nx := nxI s.nx ah (s.n + 1) h }) rfl (HR.out.mem.row.alloc _) ⟨wr.heap.size, 0, none⟩ 1 1 (twCells k x h (tnI s.nx ah h)) rfl rfl (World.news_of_block (heap_alloc_new _ _)) (tw_one _ _ _ _) (by omega) (by unfold maxLen; omega) (by omega) (Nat.zero_le _) (wr.heap.size + 1) (by simp) ?_
             intro g cap w4 hown4 hgrow4 hwhere hlt4
             have far : ∀ (b o : Nat), b < wr.heap.size → some b ≠ (Value.slice a s.n c).ownBlock → w4.cell? ⟨b, o, none⟩ = wr.cell? ⟨b, o, none⟩ := fun b o hb hn => (hgrow4.cell_far ⟨b, o, none⟩ (by simp; omega) hn).trans (World.cell?_of_block (Below.heap_alloc wr _ b hb))
             have c4 := (far l 0 hl2 hne1.out).trans HK.out.1
             have t4 := (far (w.heap.size + 1) 0 hwl hne2.out).trans HK.out.2.1
             have t5 := (far (w.heap.size + 1) 1 hwl hne2.out).trans HK.out.2.2.1
             have t13 := (far l 13 hl2 hne1.out).trans hc13
             have f13 : w4.frozen? ⟨l, 13, none⟩ = false := (hgrow4.frozen_far ⟨l, 13, none⟩ (by simp; omega) hne1.out).trans ((World.frozen?_of_block (Below.heap_alloc wr _ l hl2)).trans hfl13)
             have f4 : w4.frozen? ⟨l, 0, none⟩ = false := (hgrow4.frozen_far ⟨l, 0, none⟩ (by simp; omega) hne1.out).trans ((World.frozen?_of_block (Below.heap_alloc wr _ l hl2)).trans hfl)
             have H4 := Lib.hid (And.intro hown4 (And.intro hgrow4 (And.intro hwhere hlt4)))
             clear far hown4 hgrow4 hwhere hlt4))
      all_goals
        have HE := Lib.hid (raise_end (by first | exact ((Below.refl _ wr).alloc (Nat.le_refl _) _) | exact ((Below.refl _ wr).alloc (Nat.le_refl _) _).trans (below_drew _ _) | exact (below_drew _ wr).trans ((Below.refl _ _).alloc (Nat.le_refl _) _)) ha.out HR.out HH.out.lt hfew H4.out.1 H4.out.2.1 H4.out.2.2.1 (bytes + ((k.size : Int) + (x.size : Int))))
        clear HK HR H4 q0 q1 q2 q3 q4 q5 q6 q7 q8 q9 q10 q11 q12 q13 q14 HI
        go_wp2
        go_region
      all_goals
        go_end0
        exact ⟨rfl, _, HE.out.1.below (below_drew _ _), HE.out.2.on (below_drew _ _)⟩
end Go.Proofs.YtadejeoiffaimaaDoor.Sk
