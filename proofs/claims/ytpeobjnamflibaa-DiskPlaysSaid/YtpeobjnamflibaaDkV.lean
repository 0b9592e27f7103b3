/-
  The document's own disk: what is synced, made, laid behind and deleted. Conditions: as each theorem states.
-/
import Derived.Test.YtpeobjnamflibaaDkU
import Derived.BigRegion
namespace Go.Proofs.Ytpeobjnamflibaa.Dk
open Go.RowKit Go.Maps

section
variable {w : World} {q : Nat} {v : Value} {L A B : List RFile} {f : RFile} {room steps fuse fault : Int} {down : Bool}
theorem cells_len (L : List RFile) : (L.flatMap RFile.cells).length = L.length * 3 := by
  induction L with
  | nil => rfl
  | cons a L ih => rw [List.flatMap_cons, List.length_append, ih, List.length_cons]; simp [RFile.cells]; omega
theorem row_set {f' : RFile} {j : Nat} {val : Value} (hj : j < 3) (hv : f'.cells = f.cells.set j val) : ((A ++ f :: B).flatMap RFile.cells).set (A.length * 3 + j) val = (A ++ f' :: B).flatMap RFile.cells := by
  rw [List.flatMap_append, List.flatMap_cons, List.flatMap_append, List.flatMap_cons, List.set_append_right _ _ (by rw [cells_len]; omega), cells_len, List.set_append_left _ _ (by simp [RFile.cells]; omega), hv]
  congr 3
  omega
/-- one cell of one file is set -/
theorem RefAt.set {f' : RFile} {g n cap j : Nat} {val : Value} (h : RefAt w q (.slice (some ⟨g, 0, none⟩) n cap) (A ++ f :: B) room steps fuse fault down) (hj : j < 3) (hv : f'.cells = f.cells.set j val) (hs : f'.sure ≤ f'.s.size) (hvol : usedR (A ++ f' :: B) ≤ 16777216) :
    RefAt (w.setCell ⟨g, A.length * 3 + j, none⟩ val) q (.slice (some ⟨g, 0, none⟩) n cap) (A ++ f' :: B) room steps fuse fault down ∧ Only [g] w (w.setCell ⟨g, A.length * 3 + j, none⟩ val) := by
  have hgr := grown_set w g (A.length * 3 + j) val
  refine ⟨⟨?_, ?_, ?_, h.apart, ?_, hvol⟩, Only.of_grown hgr (fun k e => by injection e with e; subst e; simp)⟩
  · exact (hgr.block q (h.lt q (by simp [rfeet])) (by intro e; injection e with e; exact h.apart (by simp [Value.ownBlock, e]))).trans h.ref
  · have hr := h.row
    refine ⟨by rw [cells_len], ?_⟩
    rcases hr.2 with ⟨e, hn⟩ | ⟨g', cap', cur, e, hb, hh, hl, hm, hsz, hcur⟩
    · cases e
    · injection e with e1 e2 e3
      injection e1 with e1
      injection e1 with e1
      subst e1 e2 e3
      refine Or.inr ⟨g, cap, cur.setIfInBounds (A.length * 3 + j) val, ?_, hb, heap_set hh _ _, ?_, hm, by rw [Array.size_setIfInBounds, hsz], ?_⟩
      · simp
      · simpa using hl
      · rw [Array.toList_setIfInBounds, List.take_set, ← row_set hj hv, ← hcur]
        simp
  · have := h.few
    simpa using this
  · intro y hy
    simp at hy
    rcases hy with hy | rfl | hy
    · exact h.sure y (by simp [hy])
    · exact hs
    · exact h.sure y (by simp [hy])
theorem RefAt.at3 {g n cap : Nat} (h : RefAt w q (.slice (some ⟨g, 0, none⟩) n cap) (A ++ f :: B) room steps fuse fault down) :
    w.cell? ⟨g, A.length * 3, none⟩ = some (.string f.name) ∧ w.cell? ⟨g, A.length * 3 + 1, none⟩ = some (.string f.s) ∧ w.cell? ⟨g, A.length * 3 + 2, none⟩ = some (.int .i64 (f.sure : Int)) ∧ ∀ j, w.frozen? ⟨g, j, none⟩ = false := by
  obtain ⟨g', cap', cur, e, hh, hl, hm, x1, x2, x3⟩ := h.mid
  injection e with e1 e2 e3
  injection e1 with e1
  injection e1 with e1
  subst e1
  exact ⟨x1, x2, x3, free_in hh⟩
theorem RStep.no {own code steps' fuse' fault' : Int} {down' : Bool} (h : RStep own steps fuse fault down code steps' fuse' fault' down') (ho : (own == 0) = false) : (code == 0) = false := by
  rcases h with ⟨_, rfl, _⟩ | ⟨_, h, rfl, _⟩ | ⟨_, rfl, _⟩ | ⟨_, rfl, _⟩
  · rfl
  · exact h
  · cases ho
  · cases ho
theorem rstep_at {own code steps' fuse' fault' : Int} {down' : Bool} (h : RefAt w q v L room steps fuse fault down) (hs : RStep own steps fuse fault down code steps' fuse' fault' down') :
    Calls Try.prog 44 #[.pointer (some ⟨q, 0, none⟩), .int .i64 own] w fun r w' => r = .returned (.int .i64 code) ∧ RefAt w' q v L room steps' fuse' fault' down' ∧ Moves w (rfeet q v) w' (rfeet q v) :=
  (rstep_any h.ref hs).mono (fun _ _ ⟨e, h1, h2⟩ => ⟨e, (h.turn h1 h2).1, (h.turn h1 h2).2⟩)
theorem Moves.of_below {fp : List Nat} {w w' : World} (h : Below w.heap.size w w') : Moves w fp w' fp := ⟨Only.of_below h, fun _ hk => Or.inl hk⟩
theorem rsync_miss {code steps' fuse' fault' : Int} {down' : Bool} (h : RefAt w q v L room steps fuse fault down) (s : ByteArray) (hA : ∀ a ∈ L, a.name ≠ s) (hs : RStep 16 steps fuse fault down code steps' fuse' fault' down') :
    Calls Try.prog 16 #[.pointer (some ⟨q, 0, none⟩), .string s] w fun r w' => r = .returned (.int .i64 code) ∧ RefAt w' q v L room steps' fuse' fault' down' ∧ Moves w (rfeet q v) w' (rfeet q v) := by
  have hc := hs.no rfl
  have H := Lib.hid (And.intro h (And.intro hA hs))
  clear h hA hs
  go_enter Try.func16, Try.ntmps16
  go_wp2_with (first
    | (go_at_call 42; with_reducible refine (find_miss H.out.1 s H.out.2.1).mono ?_; rintro r w1 ⟨rfl, hb⟩)
    | (go_at_call 44; with_reducible refine (rstep_at (H.out.1.below hb) H.out.2.2).mono ?_; rintro r w2 ⟨rfl, h2, hm2⟩))
  go_ret
  exact ⟨rfl, h2, (Moves.of_below hb).trans hm2⟩
theorem rsync_fails {code steps' fuse' fault' : Int} {down' : Bool} (h : RefAt w q v (A ++ f :: B) room steps fuse fault down) (hA : ∀ a ∈ A, a.name ≠ f.name) (hs : RStep 0 steps fuse fault down code steps' fuse' fault' down') (hc : (code == 0) = false) :
    Calls Try.prog 16 #[.pointer (some ⟨q, 0, none⟩), .string f.name] w fun r w' => r = .returned (.int .i64 code) ∧ RefAt w' q v (A ++ f :: B) room steps' fuse' fault' down' ∧ Moves w (rfeet q v) w' (rfeet q v) := by
  have H := Lib.hid (And.intro h (And.intro hA hs))
  clear h hA hs
  go_enter Try.func16, Try.ntmps16
  go_wp2_with (first
    | (go_at_call 42; with_reducible refine (find_hit H.out.1 H.out.2.1).mono ?_; rintro r w1 ⟨rfl, hb⟩)
    | (go_at_call 44; with_reducible refine (rstep_at (H.out.1.below hb) H.out.2.2).mono ?_; rintro r w2 ⟨rfl, h2, hm2⟩))
  go_ret
  exact ⟨rfl, h2, (Moves.of_below hb).trans hm2⟩
theorem rsync_ok (h : RefAt w q v (A ++ f :: B) room steps fuse fault false) (hA : ∀ a ∈ A, a.name ≠ f.name) (hcs : CanStep steps fuse fault) :
    Calls Try.prog 16 #[.pointer (some ⟨q, 0, none⟩), .string f.name] w fun r w' => r = .returned (.int .i64 0) ∧ RefAt w' q v (A ++ ⟨f.name, f.s, f.s.size⟩ :: B) room (steps + 1) (tick fuse) (tick fault) false ∧ Moves w (rfeet q v) w' (rfeet q v) := by
  obtain ⟨g, cap, cur, rfl, hh, hl, hm, x1, x2, x3⟩ := h.mid
  have hfew := h.few
  have hq : q < w.heap.size := h.lt q (by simp [rfeet])
  have hg : g < w.heap.size := h.lt g (by simp [rfeet, Value.ownBlock])
  have hsz : f.s.size ≤ 16777216 := by
    have := h.vol
    simp [usedR] at this
    omega
  have H := Lib.hid (And.intro h (And.intro hA hcs))
  have hs : Hid (RStep 0 steps fuse fault false 0 (steps + 1) (tick fuse) (tick fault) false) := Lib.hid (Or.inr (Or.inr (Or.inr ⟨rfl, rfl, hcs, rfl, rfl, rfl, rfl, rfl⟩)))
  clear h hA hcs hh x1 x2 x3
  go_enter Try.func16, Try.ntmps16
  go_wp2_with (first
    | (go_at_call 42; with_reducible refine (find_hit H.out.1 H.out.2.1).mono ?_; rintro r w1 ⟨rfl, hb⟩)
    | (go_at_call 44
       with_reducible refine (rstep_at (H.out.1.below hb) hs.out).mono ?_
       rintro r w2 ⟨rfl, h2, hm2⟩
       have c0 := ref0 h2.ref
       have hx := h2.at3
       obtain ⟨x1, x2, x3, xf⟩ := hx
       have x4 := xf (A.length * 3 + 2)
       clear xf
       have H2 := Lib.hid (And.intro h2 hm2)
       clear h2 hm2))
  go_region
  go_wp2
  go_ret
  obtain ⟨e1, e2⟩ := H2.out.1.set (j := 2) (val := .int .i64 ((f.s.size : Nat) : Int)) (f' := ⟨f.name, f.s, f.s.size⟩) (by omega) rfl (Nat.le_refl _) (by have := H2.out.1.vol; simp [usedR] at this ⊢; exact this)
  exact ⟨rfl, e1.below (Below.refl _ _).drew, ((Moves.of_below hb).trans H2.out.2).trans ⟨(e2.widen (by simp [rfeet, Value.ownBlock])).trans (Only.of_below (Below.refl _ _).drew), fun k hk => Or.inl hk⟩⟩
end
end Go.Proofs.Ytpeobjnamflibaa.Dk
