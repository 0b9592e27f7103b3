/-
  The document's own disk: what is renamed. Conditions: as each theorem states.
-/
import Derived.Test.YtpeobjnamflibaaDkZ
import Derived.Deep.RegionHeldLaw
import Derived.Deep.RegionLaw
namespace Go.Proofs.Ytpeobjnamflibaa.Dk
open Go.RowKit Go.Maps

section
variable {w : World} {q : Nat} {v : Value} {L A B : List RFile} {f : RFile} {room steps fuse fault : Int} {down : Bool}
theorem rrename_fails {own code steps' fuse' fault' : Int} {down' : Bool} (h : RefAt w q v L room steps fuse fault down) (s t : ByteArray) (ht : Hid (t.size ≤ maxLen))
    (hown : (own = 16 ∧ ∀ f ∈ L, f.name ≠ s) ∨ ((∃ f ∈ L, f.name = s) ∧ ((isNm t.data.toList = false ∧ own = 12) ∨ (isNm t.data.toList = true ∧ own = 0))))
    (hs : RStep own steps fuse fault down code steps' fuse' fault' down') (hc : (code == 0) = false) :
    Calls Try.prog 18 #[.pointer (some ⟨q, 0, none⟩), .string s, .string t] w fun r w' => r = .returned (.int .i64 code) ∧ RefAt w' q v L room steps' fuse' fault' down' ∧ Moves w (rfeet q v) w' (rfeet q v) := by
  obtain ⟨i, hi⟩ : ∃ i : Int, findI L s.data.toList = i := ⟨_, rfl⟩
  have hfind := find_any h.ref h.row s h.few
  rw [hi] at hfind
  have HF := Lib.hid hfind
  clear hfind
  have H := Lib.hid (And.intro h hs)
  clear h hs
  obtain ⟨n, hn⟩ : ∃ n, isNm t.data.toList = n := ⟨_, rfl⟩
  have HNM : Hid (∀ W : World, Calls Try.prog 43 #[.string t] W fun e w' => e = .returned (.bool n) ∧ W = w') := fun W => by
    have := named_any t ht W
    rwa [hn] at this
  rcases hown with ⟨rfl, hx⟩ | ⟨hx, hown⟩
  · have hge := findI_gone hx
    rw [hi] at hge
    subst hge
    clear hi hx hn
    cases n
    all_goals
      go_enter Try.func18, Try.ntmps18
      go_wp2_with (first
        | (go_at_call 42; with_reducible refine (HF.out).mono ?_; rintro r w1 ⟨rfl, hb⟩)
        | (go_at_call 43; with_reducible refine (HNM.out _).mono ?_; rintro r w2 ⟨rfl, rfl⟩)
        | (go_at_call 44; with_reducible refine (rstep_at (H.out.1.below hb) H.out.2).mono ?_; rintro r w3 ⟨rfl, h3, hm3⟩))
      go_ret
      exact ⟨rfl, h3, (Moves.of_below hb).trans hm3⟩
  · have hge := findI_here hx
    rw [hi] at hge
    have hge2 : ¬ i < 0 := by omega
    clear hi hx hge
    rcases hown with ⟨h1, rfl⟩ | ⟨h1, rfl⟩
    all_goals
      rw [hn] at h1
      subst h1
      clear hn
      go_enter Try.func18, Try.ntmps18
      go_wp2_with (first
        | (go_at_call 42; with_reducible refine (HF.out).mono ?_; rintro r w1 ⟨rfl, hb⟩)
        | (go_at_call 43; with_reducible refine (HNM.out _).mono ?_; rintro r w2 ⟨rfl, rfl⟩)
        | (go_at_call 44; with_reducible refine (rstep_at (H.out.1.below hb) H.out.2).mono ?_; rintro r w3 ⟨rfl, h3, hm3⟩))
      go_ret
      exact ⟨rfl, h3, (Moves.of_below hb).trans hm3⟩
/-- a box of its own beside the disk -/
structure RB (q : Nat) (v : Value) (L : List RFile) (room steps fuse fault : Int) (down : Bool) (k : Nat) (f : RFile) (W : World) : Prop where
  ref : RefAt W q v L room steps fuse fault down
  box : W.heap[k]? = some (.cells #[.string f.name, .string f.s, .int .i64 (f.sure : Int)] 69 (0, 0))
  far : k ∉ rfeet q v
theorem rb_new (h : RefAt w q v L room steps fuse fault down) (f : RFile) : RB q v L room steps fuse fault down w.heap.size f (w.alloc (.cells #[.string f.name, .string f.s, .int .i64 (f.sure : Int)] 69)) :=
  ⟨h.below ((Below.refl _ _).alloc (Nat.le_refl _) _), heap_alloc_new _ _, fun hk => by have := h.lt _ hk; omega⟩
theorem rb_moves {v2 : Value} {L2 : List RFile} {k : Nat} {w2 : World} (h : RB q v L room steps fuse fault down k f w) (h2 : RefAt w2 q v2 L2 room steps fuse fault down) (hm : Moves w (rfeet q v) w2 (rfeet q v2)) : RB q v2 L2 room steps fuse fault down k f w2 := by
  have hk : k < w.heap.size := (Array.getElem?_eq_some_iff.1 h.box).1
  refine ⟨h2, (hm.only.block k hk h.far).trans h.box, fun hn => ?_⟩
  rcases hm.fresh k hn with h1 | h1
  · exact h.far h1
  · omega
theorem rb_set {k : Nat} (h : RB q v L room steps fuse fault down k f w) (t : ByteArray) : RB q v L room steps fuse fault down k { f with name := t } (w.setCell ⟨k, 0, none⟩ (.string t)) := by
  have hne : ∀ g ∈ rfeet q v, k ≠ g := fun g hg e => h.far (e ▸ hg)
  refine ⟨⟨?_, ownsRow_kept h.ref.row (fun g hg => ?_), h.ref.few, h.ref.apart, h.ref.sure, h.ref.vol⟩, heap_set h.box 0 _, h.far⟩
  · exact (Below.heap_setCell _ _ _ _ (by exact (hne q (by simp [rfeet])).symm)).trans h.ref.ref
  · exact Below.heap_setCell _ _ _ _ (by exact (hne g (by simp [rfeet, hg])).symm)
end
end Go.Proofs.Ytpeobjnamflibaa.Dk
