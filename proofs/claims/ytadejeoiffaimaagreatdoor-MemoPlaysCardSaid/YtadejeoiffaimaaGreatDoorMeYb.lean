/-
  The law MemoPlays walked. Conditions: as each theorem states.
-/
import Derived.Test.YtadejeoiffaimaaGreatDoorMeW
import Derived.Test.YtadejeoiffaimaaGreatDoorMeX
import Derived.Deep.RegionWith
namespace Go.Proofs.YtadejeoiffaimaaGreatDoor.Me
open Go.RowKit Go.Shelf
open Vi
open Go.Proofs.YtadejeoiffaimaaGreatDoor.Sk (feet Lst Moves Only NRow)

theorem EAt.kept {w w' : World} {v : Value} {q : List En} (h : EAt w v q) (hk : ∀ g, v.ownBlock = some g → w'.heap[g]? = w.heap[g]?) (hs : w.heap.size ≤ w'.heap.size) : EAt w' v q := by
  obtain ⟨A, c, rfl, hcap, hc⟩ := h
  refine ⟨A, c, rfl, hcap, fun h0 => ?_⟩
  obtain ⟨g, rfl, hg, hx⟩ := hc h0
  have he := hk g rfl
  refine ⟨g, rfl, Nat.lt_of_lt_of_le hg hs, fun j x hj => ?_⟩
  rw [← hx j x hj]
  unfold World.cell?
  simp only [he]
theorem EAt.lt {w : World} {v : Value} {q : List En} (h : EAt w v q) (h0 : 0 < q.length) : ∃ g, v.ownBlock = some g ∧ g < w.heap.size := by
  obtain ⟨A, c, rfl, _, hc⟩ := h
  obtain ⟨g, rfl, hg, _⟩ := hc h0
  exact ⟨g, rfl, hg⟩
/-- the memo and the document's row beside one another -/
structure PSM (w : World) (b l : Nat) (v : Value) (E : List En) (n : Nat) (m : Int) (qv : Value) (W : World) : Prop where
  mem : MemAt W b l v E n m
  row : EAt W qv E
  off : ∀ g, qv.ownBlock = some g → g ∉ mfeet b l v ∧ g < W.heap.size
  low : ∀ k ∈ mfeet b l v, w.heap.size ≤ k
  below : Below w.heap.size w W
section
variable {w W W' : World} {b l n n' : Nat} {v v' qv q' : Value} {E E' : List En} {m : Int}
theorem PSM.bel (h : PSM w b l v E n m qv W) (hb : Below W.heap.size W W') : PSM w b l v E n m qv W' :=
  ⟨h.mem.below hb, h.row.below hb, fun g hg => ⟨(h.off g hg).1, Nat.lt_of_lt_of_le (h.off g hg).2 hb.size⟩, h.low, h.below.trans (hb.mono h.below.size)⟩
theorem PSM.sorted (h : PSM w b l v E n m qv W) : E.Pairwise (fun x y => ahead x y = true) := pw_of_srt h.mem.good (lst_srt h.mem.lst)
theorem PSM.moved (h : PSM w b l v E n m qv W) (hm : MemAt W' b l v' E' n' m) (hM : Moves W (mfeet b l v) W' (mfeet b l v')) (hr : EAt W q' E') (ho : ∀ g, q'.ownBlock = some g → g ∉ mfeet b l v ∧ g < W.heap.size) : PSM w b l v' E' n' m q' W' := by
  refine ⟨hm, hr.kept (fun g hg => hM.only.block g (ho g hg).2 (ho g hg).1) hM.only.size, fun g hg => ⟨fun hn => ?_, Nat.lt_of_lt_of_le (ho g hg).2 hM.only.size⟩, hM.low h.low h.below.size, h.below.trans (hM.below h.low h.below.size)⟩
  rcases hM.fresh g hn with h1 | h1
  · exact (ho g hg).1 h1
  · have := (ho g hg).2; omega
theorem PSM.len (h : PSM w b l v E n m qv W) : E.length = n := by
  have := h.mem.lst.len.1; rw [List.length_map] at this; exact this
theorem PSM.start {w1 : World} (hb : Below w.heap.size w w1) (h : MemAt W b l (.slice none 0 0) [] 0 m) (hf : ∀ k ∈ mfeet b l (.slice none 0 0), w1.heap.size ≤ k) (hB : Below w1.heap.size w1 W) : PSM w b l (.slice none 0 0) [] 0 m (.slice none 0 0) W :=
  ⟨h, ⟨none, 0, rfl, by simp, fun h => by simp at h⟩, fun g hg => by simp [Value.ownBlock] at hg, fun k hk => Nat.le_trans hb.size (hf k hk), hb.trans (hB.mono hb.size)⟩
theorem PSM.block {o : Obj} {g : Nat} (h : PSM w b l v E n m qv W) (hM : Moves W (mfeet b l v) W' (mfeet b l v')) (hX : W.heap[g]? = some o) (hg : g ∉ mfeet b l v) : W'.heap[g]? = some o :=
  (hM.only.block g (Array.getElem?_eq_some_iff.1 hX).1 hg).trans hX
end
theorem bytes_le : ∀ (E : List En), (∀ x ∈ E, x.key.size ≤ 300 ∧ x.val.size ≤ 1000) → bytesE E ≤ 2000 * E.length
  | [], _ => by simp [bytesE]
  | x :: E, h => by
    have ih := bytes_le E (fun y hy => h y (by simp [hy]))
    have := h x (by simp)
    unfold bytesE at *
    simp only [List.map_cons, List.sum_cons, List.length_cons]
    omega
theorem add_sizes {E : List En} {e : En} (h : ∀ x ∈ E, x.key.size ≤ 300 ∧ x.val.size ≤ 1000) (he : e.key.size ≤ 300 ∧ e.val.size ≤ 1000) : ∀ x ∈ addE E e, x.key.size ≤ 300 ∧ x.val.size ≤ 1000 := by
  intro x hx
  unfold addE at hx
  rcases List.mem_append.1 hx with hx | hx
  · exact h x (List.mem_filter.1 hx).1
  · rcases List.mem_cons.1 hx with rfl | hx
    · exact he
    · exact h x (List.mem_filter.1 hx).1
theorem row_len {W : World} {qv : Value} {q : List En} (h : EAt W qv q) : ∃ A c, qv = .slice A q.length c := by
  obtain ⟨A, c, e, _⟩ := h
  exact ⟨A, c, e⟩
section
variable {w W : World} {b l n : Nat} {v qv : Value} {E : List En} {m : Int}
def RGood (w : World) (b l : Nat) (v : Value) (E : List En) (n : Nat) (m : Int) (qv : Value) (W : World) (y : En) (r : Ending) (w' : World) : Prop :=
  (∃ A c, r = .returned (.tuple #[.slice A (addE E y).length c, .int .i64 0]) ∧ EAt w' (.slice A (addE E y).length c) (addE E y) ∧ ∀ g, (Value.slice A (addE E y).length c).ownBlock = some g → g ∉ mfeet b l v ∧ g < w'.heap.size) ∧ PSM w b l v E n m qv w' ∧ Below W.heap.size W w'
theorem radd_good (T : PSM w b l v E n m qv W) (y : En) (hy : y.good) (hn : n ≤ 900) :
    Calls Tryz.prog 7 #[qv, .agg #[.string y.key, .int .u64 y.seq, .int .i64 y.kind, .string y.val]] W (RGood w b l v E n m qv W y) := by
  have hl := T.len
  refine (radd_any T.row y (by omega)).mono ?_
  rintro r w' ⟨⟨q', rfl, h⟩, hb⟩
  rw [chk_good hy] at h ⊢
  rcases h with ⟨h, _⟩ | ⟨_, ho⟩
  · exact absurd rfl h
  · rw [with_add T.mem.good hy (lst_srt T.mem.lst)] at ho
    have he := eat_of_owns ho
    obtain ⟨A, c, rfl⟩ := row_len he
    exact ⟨⟨A, c, rfl, he, fun g hg => ⟨fun hm => by have := T.mem.lt g hm; have := (ho.lt g hg).1; omega, (ho.lt g hg).2⟩⟩, T.bel hb, hb⟩
theorem radd_bad (T : PSM w b l v E n m qv W) (y : En) (hy : ¬ chkE y = 0) (hn : n ≤ 900) :
    Calls Tryz.prog 7 #[qv, .agg #[.string y.key, .int .u64 y.seq, .int .i64 y.kind, .string y.val]] W fun r w' => r = .returned (.tuple #[qv, .int .i64 (chkE y)]) ∧ Below W.heap.size W w' := by
  have hl := T.len
  refine (radd_any T.row y (by omega)).mono ?_
  rintro r w' ⟨⟨q', rfl, h⟩, hb⟩
  rcases h with ⟨_, rfl⟩ | ⟨h, _⟩
  · exact ⟨rfl, hb⟩
  · exact absurd h hy
def GetT (w : World) (b l : Nat) (v : Value) (E : List En) (n : Nat) (m : Int) (qv : Value) (W : World) (ye : En) (yb : Bool) (r : Ending) (w' : World) : Prop :=
  r = .returned (.tuple #[.agg #[.string ye.key, .int .u64 ye.seq, .int .i64 ye.kind, .string ye.val], .bool yb]) ∧ PSM w b l v E n m qv w' ∧ Moves W (mfeet b l v) w' (mfeet b l v)
theorem get_t (T : PSM w b l v E n m qv W) (key : ByteArray) (at_ : Nat) (hk : key.size ≤ 1000000) (ha : at_ < 18446744073709551616) {ye : En} {yb : Bool} (h1 : (rgetE E key at_).getD noEn = ye) (h2 : (rgetE E key at_).isSome = yb) :
    Calls Tryz.prog 11 #[.pointer (some ⟨b, 0, none⟩), .string key, .int .u64 at_] W (GetT w b l v E n m qv W ye yb) := by
  refine (get_any T.mem key hk at_ ha).mono ?_
  rintro r w' ⟨rfl, hm, ho⟩
  rw [get_is T.mem.good T.sorted, h1, h2]
  exact ⟨rfl, T.moved hm (moves_get ho) T.row T.off, moves_get ho⟩
theorem rget_t (T : PSM w b l v E n m qv W) (key : ByteArray) (at_ : Nat) (hn : n ≤ 900) {ye : En} {yb : Bool} (h1 : (rgetE E key at_).getD noEn = ye) (h2 : (rgetE E key at_).isSome = yb) :
    Calls Tryz.prog 12 #[qv, .string key, .int .u64 at_] W fun r w' => r = .returned (.tuple #[.agg #[.string ye.key, .int .u64 ye.seq, .int .i64 ye.kind, .string ye.val], .bool yb]) ∧ Below W.heap.size W w' := by
  have hl := T.len
  have := rget_e T.row key at_ (by omega)
  rw [h1, h2] at this
  exact this
end
theorem s8 {w W : World} {g : Nat} {y y0 : En} {a : Addr} (hX : W.heap[g]? = some (.cells #[.string y.key, .int .u64 y.seq, .int .i64 y.kind, .string y.val] 30 (0, 0))) (K : EnCells w a y0) (hab : a.block < w.heap.size) (hb : Below w.heap.size w W) :
    W.cell? ⟨g, 0, none⟩ = some (.string y.key) ∧ W.cell? ⟨g, 1, none⟩ = some (.int .u64 y.seq) ∧ W.cell? ⟨g, 2, none⟩ = some (.int .i64 y.kind) ∧ W.cell? ⟨g, 3, none⟩ = some (.string y.val) ∧
      W.cell? a = some (.string y0.key) ∧ W.cell? ⟨a.block, a.off + 1, none⟩ = some (.int .u64 y0.seq) ∧ W.cell? ⟨a.block, a.off + 2, none⟩ = some (.int .i64 y0.kind) ∧ W.cell? ⟨a.block, a.off + 3, none⟩ = some (.string y0.val) := by
  obtain ⟨z0, z1, z2, z3⟩ := box4 hX
  obtain ⟨k0, k1, k2, k3⟩ := K
  exact ⟨z0, z1, z2, z3, (hb.cell (p := a) hab).trans k0, (hb.cell (p := ⟨a.block, a.off + 1, none⟩) hab).trans k1, (hb.cell (p := ⟨a.block, a.off + 2, none⟩) hab).trans k2, (hb.cell (p := ⟨a.block, a.off + 3, none⟩) hab).trans k3⟩
def PlM (w : World) (b lo : Nat) (m : Int) (l : List En) (qv i : Value) (wr : World) : Prop :=
  ∃ (j n : Nat) (v : Value) (E : List En), j ≤ l.length ∧ i = .int .i64 j ∧ n ≤ j ∧ PSM w b lo v E n m qv wr ∧ ∀ x ∈ E, x.key.size ≤ 300 ∧ x.val.size ≤ 1000
end Go.Proofs.YtadejeoiffaimaaGreatDoor.Me
