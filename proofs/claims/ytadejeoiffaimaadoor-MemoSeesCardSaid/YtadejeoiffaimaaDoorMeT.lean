/-
  The document's With for rows of entries, walked; what it comes to. Conditions: as each theorem states.
-/
import Derived.Test.YtadejeoiffaimaaDoorMeS
namespace Go.Proofs.YtadejeoiffaimaaDoor.Me
open Go.RowKit
open Vi

def differs (x e : En) : Bool := !(decide (x.key = e.key) && decide (x.seq = e.seq) && decide (x.kind = e.kind))
def wGo (e : En) : List En → Bool → List En → List En
  | [], d, o => if d = true then o else o ++ [e]
  | x :: l, d, o => wGo e l (d || !ahead x e) ((if (!d && !ahead x e) = true then o ++ [e] else o) ++ (if differs x e = true then [x] else []))
theorem ahead_trans {x y z : En} (hx : x.good) (hy : y.good) (hz : z.good) (h1 : ahead x y = true) (h2 : ahead y z = true) : ahead x z = true := by
  rw [← lt_good hx hy.wf] at h1
  rw [← lt_good hy hz.wf] at h2
  rw [← lt_good hx hz.wf]
  exact Sk.lt_trans h1 h2
theorem differs_same (x e : En) : differs x e = !same3 x e := by
  cases h : same3 x e with
  | true =>
    obtain ⟨h1, h2, h3⟩ := same3_eq h
    simp [differs, h1, h2, h3]
  | false =>
    cases hd : differs x e with
    | true => rfl
    | false =>
      have hk : x.key = e.key ∧ x.seq = e.seq ∧ x.kind = e.kind := by simpa [differs, and_assoc] using hd
      obtain ⟨h1, h2, h3⟩ := hk
      have ha : ahead x e = false := by unfold ahead; rw [if_pos h1, if_pos h2]; exact decide_eq_false (by omega)
      have hb : ahead e x = false := by unfold ahead; rw [if_pos h1.symm, if_pos h2.symm]; exact decide_eq_false (by omega)
      rw [same3, ha, hb] at h; cases h
theorem w_rest (e : En) : ∀ (l o : List En), wGo e l true o = o ++ l.filter (fun x => differs x e)
  | [], o => by simp [wGo]
  | x :: l, o => by
    rw [wGo, Bool.true_or, Bool.not_true, Bool.false_and, if_neg (by decide), w_rest e l, List.filter_cons]
    cases differs x e <;> simp
theorem w_all {e : En} (he : e.good) : ∀ (l o : List En), (∀ x ∈ l, x.good) → l.Pairwise (fun x y => ahead x y = true) → wGo e l false o = o ++ addE l e
  | [], o, _, _ => by simp [wGo, addE]
  | x :: l, o, hg, hp => by
    have hx := hg x (by simp)
    have hl := fun y hy => hg y (List.mem_cons_of_mem x hy)
    obtain ⟨hp1, hp2⟩ := List.pairwise_cons.1 hp
    rw [wGo, Bool.false_or, Bool.not_false, Bool.true_and]
    cases ha : ahead x e with
    | true =>
      have hb := ahead_asym ha
      have hd : differs x e = true := by rw [differs_same, same3, ha]; rfl
      rw [hd]
      simp only [Bool.not_true, Bool.false_eq_true, if_false, if_true]
      rw [w_all he l _ hl hp2]
      unfold addE
      rw [List.filter_cons, List.filter_cons]
      simp [ha, hb]
    | false =>
      simp only [Bool.not_false, if_true]
      rw [w_rest]
      have h1 : ∀ y ∈ l, ahead y e = false := fun y hy => by
        cases h : ahead y e with
        | false => rfl
        | true => rw [ahead_trans hx (hl y hy) he (hp1 y hy) h] at ha; cases ha
      have h2 : ∀ y ∈ l, differs y e = ahead e y := fun y hy => by rw [differs_same, same3, h1 y hy]; cases ahead e y <;> rfl
      have h3 : differs x e = ahead e x := by rw [differs_same, same3, ha]; cases ahead e x <;> rfl
      unfold addE
      rw [List.filter_cons, List.filter_cons, Sk.filter_none (fun y hy => h1 y hy), List.filter_congr (fun y hy => h2 y hy), h3]
      cases hx2 : ahead e x <;> simp [ha]
theorem pw_of_srt {E : List En} (hg : ∀ x ∈ E, x.good) (hs : Sk.Srt (E.map pr)) : E.Pairwise (fun x y => ahead x y = true) := by
  unfold Sk.Srt at hs
  rw [List.pairwise_map] at hs
  exact hs.imp_of_mem (fun {a b} ha hb h => by rw [← lt_good (hg a ha) (hg b hb).wf]; exact h)
theorem with_add {E : List En} {e : En} (hg : ∀ x ∈ E, x.good) (he : e.good) (hs : Sk.Srt (E.map pr)) : wGo e E false [] = addE E e := by
  rw [w_all he E [] hg (pw_of_srt hg hs)]; rfl
/-- With under way -/
structure WP (w : World) (e : En) (O : List En) (v : Value) (W : World) : Prop where
  own : W.ownsRow (w.heap.size + 1) 30 4 v O.length (eRow O)
  below : Below (w.heap.size + 1) (w.alloc (.cells #[.string e.key, .int .u64 e.seq, .int .i64 e.kind, .string e.val] 30 (0, 0))) W
section
variable {w wr W' : World} {e : En} {O O' : List En} {v v' : Value}
theorem wp_box (h : WP w e O v wr) : wr.heap[w.heap.size]? = some (.cells #[.string e.key, .int .u64 e.seq, .int .i64 e.kind, .string e.val] 30 (0, 0)) := (h.below.block _ (by omega)).trans (heap_alloc_new w _)
theorem wp_size (h : WP w e O v wr) : w.heap.size + 1 ≤ wr.heap.size := by have := h.below.size; simpa using this
theorem wp_alloc (h : WP w e O v wr) (o : Obj) : WP w e O v (wr.alloc o) := ⟨h.own.alloc _, h.below.alloc (wp_size h) _⟩
theorem wp_grown (h : WP w e O v wr) (hg : wr.grownBy W' v.ownBlock) (ho : W'.ownsRow (w.heap.size + 1) 30 4 v' O'.length (eRow O')) : WP w e O' v' W' :=
  ⟨ho, h.below.trans ⟨hg.os, hg.tape, hg.output, hg.size, fun k hk => hg.block k (Nat.lt_of_lt_of_le hk (wp_size h)) fun e => by have := (h.own.lt k e.symm).1; omega⟩⟩
theorem wp_below (h : WP w e O v wr) (hb : Below wr.heap.size wr W') : WP w e O v W' :=
  ⟨Sk.ownsRow_kept h.own (fun g hg => hb.block g (h.own.lt g hg).2), h.below.trans (hb.mono (wp_size h))⟩
theorem wp_end (h : WP w e O v wr) : Below w.heap.size w wr := ((Below.refl _ w).alloc (Nat.le_refl _) _).trans (h.below.mono (by omega))
theorem wp_keep (h : WP w e O v wr) {W1 : World} {o o2 : Obj} (hx : W1.heap[wr.heap.size]? = some o) (hg : (W1.alloc o2).grownBy W' v.ownBlock) : W'.heap[wr.heap.size]? = some o := by
  have hl := (Array.getElem?_eq_some_iff.1 hx).1
  rw [hg.block _ (by simp; omega) (fun e => by have := (h.own.lt _ e.symm).2; omega)]
  exact old_alloc hx o2
end
def WiP (w : World) (O : List En) (e : Ending) (w' : World) : Prop := ∃ v, e = .returned v ∧ w'.ownsRow (w.heap.size + 1) 30 4 v O.length (eRow O) ∧ Below w.heap.size w w'
theorem w_step (e y : En) (l : List En) (d a df : Bool) (o : List En) (ha : d = false → ahead y e = a) (hd : differs y e = df) : wGo e (y :: l) d o = wGo e l (d || !a) ((if (!d && !a) = true then o ++ [e] else o) ++ (if df = true then [y] else [])) := by
  rw [wGo, hd]
  cases d with
  | true => rfl
  | false => rw [ha rfl]
end Go.Proofs.YtadejeoiffaimaaDoor.Me
