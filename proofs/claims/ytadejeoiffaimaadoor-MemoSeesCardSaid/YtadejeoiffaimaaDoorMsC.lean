/-
  A memo and a map of entries beside one another. Conditions: as each theorem states.
-/
import Derived.Test.YtadejeoiffaimaaDoorMsA
import Derived.Test.YtadejeoiffaimaaDoorMsB
import Derived.Test.YtadejeoiffaimaaDoorMeX
import Derived.Deep.RegionWith
namespace Go.Proofs.YtadejeoiffaimaaDoor.Me
open Go.RowKit Go.Shelf
open Vi
open Go.Proofs.YtadejeoiffaimaaDoor.Sk (feet Lst Moves Only NRow)

structure TS (w : World) (b l : Nat) (v : Value) (E : List En) (n : Nat) (m : Int) (g k : Nat) (mp : ByteArray → Option En) (W : World) : Prop where
  mem : MemAt W b l v E n m
  map : EMap W g k mp
  off : g ∉ mfeet b l v
  low : ∀ j ∈ mfeet b l v, w.heap.size ≤ j
  glow : w.heap.size ≤ g
  pos : 0 < w.heap.size
  below : Below w.heap.size w W
section
variable {w W W' : World} {b l n n' g k : Nat} {v v' : Value} {E E' : List En} {m : Int} {mp mp' : ByteArray → Option En}
theorem TS.bel (h : TS w b l v E n m g k mp W) (hb : Below W.heap.size W W') : TS w b l v E n m g k mp W' :=
  ⟨h.mem.below hb, emap_kept h.map (hb.block g (emap_lt h.map)), h.off, h.low, h.glow, h.pos, h.below.trans (hb.mono h.below.size)⟩
theorem TS.sorted (h : TS w b l v E n m g k mp W) : E.Pairwise (fun x y => ahead x y = true) := pw_of_srt h.mem.good (lst_srt h.mem.lst)
theorem TS.moved (h : TS w b l v E n m g k mp W) (hm : MemAt W' b l v' E' n' m) (hM : Moves W (mfeet b l v) W' (mfeet b l v')) : TS w b l v' E' n' m g k mp W' := by
  refine ⟨hm, emap_kept h.map (hM.only.block g (emap_lt h.map) h.off), fun hn => ?_, hM.low h.low h.below.size, h.glow, h.pos, h.below.trans (hM.below h.low h.below.size)⟩
  rcases hM.fresh g hn with h1 | h1
  · exact h.off h1
  · have := emap_lt h.map; omega
theorem TS.block {o : Obj} {j : Nat} (h : TS w b l v E n m g k mp W) (hM : Moves W (mfeet b l v) W' (mfeet b l v')) (hX : W.heap[j]? = some o) (hg : j ∉ mfeet b l v) : W'.heap[j]? = some o :=
  (hM.only.block j (Array.getElem?_eq_some_iff.1 hX).1 hg).trans hX
theorem grown_below {r base : Nat} (hg : W.grownBy W' (some r)) (h1 : base ≤ r) (h2 : base ≤ W.heap.size) : Below base W W' :=
  (show Moves W [r] W' [r] from ⟨Only.of_grown hg (fun k h => by cases h; simp), fun _ h => .inl h⟩).below (fun k hk => by simp at hk; omega) h2
theorem cell0_kept (h0 : W'.heap[0]? = W.heap[0]?) : W'.cell? ⟨0, 0, none⟩ = W.cell? ⟨0, 0, none⟩ := by
  unfold World.cell?
  simp only [h0]
theorem mem_grown {r : Nat} (h : MemAt W b l v E n m) (hr : r ∉ mfeet b l v) (hr0 : 0 < r) (hg : W.grownBy W' (some r)) : MemAt W' b l v E n m :=
  h.kept (fun j hj => hg.block j (h.lt j hj) (fun e => by cases e; exact hr hj)) (cell0_kept (hg.block 0 (cell_lt h.glo) (fun e => by injection e with e; omega)))
theorem TS.put (h : TS w b l v E n m g k mp W) (hm : EMap W' g n' mp') (hg : W.grownBy W' (some g)) : TS w b l v E n m g n' mp' W' :=
  ⟨mem_grown h.mem h.off (by have := h.pos; have := h.glow; omega) hg, hm, h.off, h.low, h.glow, h.pos, h.below.trans (grown_below hg h.glow h.below.size)⟩
theorem TS.start {w1 : World} (hb : Below w.heap.size w w1) (h : MemAt W b l (.slice none 0 0) [] 0 m) (hf : ∀ k ∈ mfeet b l (.slice none 0 0), w1.heap.size ≤ k) (hB : Below w1.heap.size w1 W) (h0 : 0 < w.heap.size) :
    TS w b l (.slice none 0 0) [] 0 m W.heap.size 0 (fun _ => none) (W.alloc (.map #[] 0)) := by
  have hbw : Below w.heap.size w W := hb.trans (hB.mono hb.size)
  refine ⟨h.below ((Below.refl _ W).alloc (Nat.le_refl _) _), emap_new W, fun hm => ?_, fun j hj => Nat.le_trans hb.size (hf j hj), hbw.size, h0, hbw.alloc hbw.size _⟩
  have := h.lt _ hm; omega
def GetS (w : World) (b l : Nat) (v : Value) (E : List En) (n : Nat) (m : Int) (g k : Nat) (mp : ByteArray → Option En) (W : World) (ye : En) (yb : Bool) (r : Ending) (w' : World) : Prop :=
  r = .returned (.tuple #[.agg #[.string ye.key, .int .u64 ye.seq, .int .i64 ye.kind, .string ye.val], .bool yb]) ∧ TS w b l v E n m g k mp w' ∧ Moves W (mfeet b l v) w' (mfeet b l v)
theorem get_s (T : TS w b l v E n m g k mp W) (key : ByteArray) (at_ : Nat) (hk : key.size ≤ 1000000) (ha : at_ < 18446744073709551616) {ye : En} {yb : Bool} (h1 : (rgetE E key at_).getD noEn = ye) (h2 : (rgetE E key at_).isSome = yb) :
    Calls Tryd.prog 9 #[.pointer (some ⟨b, 0, none⟩), .string key, .int .u64 at_] W (GetS w b l v E n m g k mp W ye yb) := by
  refine (get_any T.mem key hk at_ ha).mono ?_
  rintro r w' ⟨rfl, hm, ho⟩
  rw [get_is T.mem.good T.sorted, h1, h2]
  exact ⟨rfl, T.moved hm (moves_get ho), moves_get ho⟩
end
/-- a range over the map, the memo beside it -/
structure TR (w : World) (b l : Nat) (v : Value) (E : List En) (n : Nat) (m : Int) (g r k : Nat) (mp : ByteArray → Option En) (cnt : Nat) (W : World) : Prop where
  mem : MemAt W b l v E n m
  ran : ERan W g r k mp cnt
  goff : g ∉ mfeet b l v
  roff : r ∉ mfeet b l v
  low : ∀ j ∈ mfeet b l v, w.heap.size ≤ j
  glow : w.heap.size ≤ g
  rlow : w.heap.size ≤ r
  pos : 0 < w.heap.size
  glt : g < W.heap.size
  rlt : r < W.heap.size
  below : Below w.heap.size w W
section
variable {w W W' : World} {b l n n' g r k cnt cnt' : Nat} {v v' : Value} {E E' : List En} {m : Int} {mp mp' : ByteArray → Option En}
theorem TR.bel (h : TR w b l v E n m g r k mp cnt W) (hb : Below W.heap.size W W') : TR w b l v E n m g r k mp cnt W' :=
  ⟨h.mem.below hb, eran_kept h.ran (hb.block g h.glt) (hb.block r h.rlt), h.goff, h.roff, h.low, h.glow, h.rlow, h.pos, Nat.lt_of_lt_of_le h.glt hb.size, Nat.lt_of_lt_of_le h.rlt hb.size, h.below.trans (hb.mono h.below.size)⟩
theorem TR.sorted (h : TR w b l v E n m g r k mp cnt W) : E.Pairwise (fun x y => ahead x y = true) := pw_of_srt h.mem.good (lst_srt h.mem.lst)
theorem TR.start (h : TS w b l v E n m g k mp W) (hr : ERan W' g W.heap.size k mp cnt) (hg : W.grownBy W' none) (hs : W'.heap.size = W.heap.size + 1) : TR w b l v E n m g W.heap.size k mp cnt W' := by
  have hb : Below W.heap.size W W' := (show Moves W [] W' [] from ⟨Only.of_grown hg (fun k h => by cases h), fun _ h => .inl h⟩).below (fun k hk => by cases hk) (Nat.le_refl _)
  have hgl := emap_lt h.map
  exact ⟨h.mem.below hb, hr, h.off, fun hm => by have := h.mem.lt _ hm; omega, h.low, h.glow, h.below.size, h.pos, by omega, by omega, h.below.trans (hb.mono h.below.size)⟩
theorem TR.step (h : TR w b l v E n m g r k mp cnt W) (hr : ERan W' g r k mp cnt') (hg : W.grownBy W' (some r)) (hs : W'.heap.size = W.heap.size) : TR w b l v E n m g r k mp cnt' W' := by
  have := h.pos; have := h.rlow; have := h.glt; have := h.rlt
  exact ⟨mem_grown h.mem h.roff (by omega) hg, hr, h.goff, h.roff, h.low, h.glow, h.rlow, h.pos, by omega, by omega, h.below.trans (grown_below hg h.rlow h.below.size)⟩
theorem TR.moved (h : TR w b l v E n m g r k mp cnt W) (hm : MemAt W' b l v E n m) (hM : Moves W (mfeet b l v) W' (mfeet b l v)) : TR w b l v E n m g r k mp cnt W' :=
  ⟨hm, eran_kept h.ran (hM.only.block g h.glt h.goff) (hM.only.block r h.rlt h.roff), h.goff, h.roff, h.low, h.glow, h.rlow, h.pos, Nat.lt_of_lt_of_le h.glt hM.only.size, Nat.lt_of_lt_of_le h.rlt hM.only.size, h.below.trans (hM.below h.low h.below.size)⟩
def GetR (w : World) (b l : Nat) (v : Value) (E : List En) (n : Nat) (m : Int) (g r k : Nat) (mp : ByteArray → Option En) (cnt : Nat) (W : World) (ye : En) (e : Ending) (w' : World) : Prop :=
  e = .returned (.tuple #[.agg #[.string ye.key, .int .u64 ye.seq, .int .i64 ye.kind, .string ye.val], .bool true]) ∧ TR w b l v E n m g r k mp cnt w' ∧ Moves W (mfeet b l v) w' (mfeet b l v)
theorem get_r (T : TR w b l v E n m g r k mp cnt W) (key : ByteArray) (at_ : Nat) (hk : key.size ≤ 1000000) (ha : at_ < 18446744073709551616) {ye : En} (h1 : rgetE E key at_ = some ye) :
    Calls Tryd.prog 9 #[.pointer (some ⟨b, 0, none⟩), .string key, .int .u64 at_] W (GetR w b l v E n m g r k mp cnt W ye) := by
  refine (get_any T.mem key hk at_ ha).mono ?_
  rintro e w' ⟨rfl, hm, ho⟩
  rw [get_is T.mem.good T.sorted, h1]
  exact ⟨rfl, T.moved hm (moves_get ho), moves_get ho⟩
end
def LoopA (w : World) (b lo : Nat) (m : Int) (g at_ k0 : Nat) (i : Value) (wr : World) : Prop :=
  ∃ (j n k : Nat) (v : Value) (E : List En) (mp : ByteArray → Option En), j ≤ k0 ∧ i = .int .i64 j ∧ n ≤ j ∧ k ≤ j ∧ TS w b lo v E n m g k mp wr ∧ Noted mp E at_
def LoopB (w : World) (b lo : Nat) (m : Int) (g at_ k k0 : Nat) (mp : ByteArray → Option En) (i : Value) (wr : World) : Prop :=
  ∃ (j n : Nat) (v : Value) (E : List En), j ≤ k0 ∧ i = .int .i64 j ∧ n ≤ j + 60 ∧ TS w b lo v E n m g k mp wr ∧ Noted mp E at_
end Go.Proofs.YtadejeoiffaimaaDoor.Me
