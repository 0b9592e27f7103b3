/-
  A link, a value of a skip list turned in memory. Conditions: as each theorem states.
-/
import Derived.Test.YtadejeoiffaimaaDoorSkD
namespace Go.Proofs.YtadejeoiffaimaaDoor.Sk
open Go.RowKit

theorem arena_set {s s' : Ls} (hn : s'.n = s.n) {p j : Nat} (h1 : 1 ≤ p) (h2 : p ≤ s.n) (hj : j < 15) (x : Value) (hp : twCells (s'.K p) (s'.V p) (s'.H p) (s'.nx p) = (twCells (s.K p) (s.V p) (s.H p) (s.nx p)).set j x)
    (ho : ∀ q, q ≠ p → 1 ≤ q → twCells (s'.K q) (s'.V q) (s'.H q) (s'.nx q) = twCells (s.K q) (s.V q) (s.H q) (s.nx q)) : arena s' = (arena s).set ((p - 1) * 15 + j) x := by
  apply List.ext_getElem?
  intro i
  by_cases hi : i < s.n * 15
  · have hq : i / 15 < s.n := by omega
    have ei : i = (i / 15 + 1 - 1) * 15 + i % 15 := by omega
    have hm : i % 15 < 15 := Nat.mod_lt _ (by decide)
    rw [ei, arena_at s' (by omega) (by omega) hm, List.getElem?_set]
    by_cases e : i / 15 + 1 = p
    · rw [← e] at hp ⊢
      rw [hp, List.getElem?_set]
      have ht := arena_at s (p := i / 15 + 1) (j := i % 15) (by omega) (by omega) hm
      rw [ht, tw_len15, arena_len]
      by_cases e2 : j = i % 15
      · rw [if_pos e2, if_pos (by omega), if_pos (by omega), if_pos (by omega)]
      · rw [if_neg e2, if_neg (by omega)]
    · rw [ho _ e (by omega), if_neg (by omega), arena_at s (by omega) (by omega) hm]
  · rw [List.getElem?_eq_none (by rw [arena_len, hn]; omega), List.getElem?_eq_none (by rw [List.length_set, arena_len]; omega)]
theorem row_set {w : World} {e size n g cap : Nat} {xs : List Value} (h : w.ownsRow 0 e size (.slice (some ⟨g, 0, none⟩) n cap) n xs) {i : Nat} (hi : i < xs.length) (x : Value) :
    (w.setCell ⟨g, i, none⟩ x).ownsRow 0 e size (.slice (some ⟨g, 0, none⟩) n cap) n (xs.set i x) := by
  refine ⟨by rw [List.length_set]; exact h.1, ?_⟩
  rcases h.2 with ⟨h0, _⟩ | ⟨g', cap', cur, hv, hb, hg, h1, h2, h3, h4⟩
  · cases h0
  · simp only [Value.slice.injEq, Option.some.injEq, Addr.mk.injEq, and_true, true_and] at hv
    obtain ⟨rfl, rfl⟩ := hv
    refine .inr ⟨g, cap, cur.setIfInBounds i x, rfl, hb, heap_set hg i x, h1, h2, by simpa using h3, ?_⟩
    rw [← h4]
    simp [List.take_set]
def upd2 (f : Nat → Nat → Nat) (p lv x : Nat) : Nat → Nat → Nat := fun q j => if q = p ∧ j = lv then x else f q j
theorem upd2_other {f : Nat → Nat → Nat} {p lv x q : Nat} (h : q ≠ p) : upd2 f p lv x q = f q := by funext j; simp [upd2, h]
theorem upd2_at (f : Nat → Nat → Nat) (p lv x : Nat) : upd2 f p lv x p = upd (f p) lv x := by funext j; simp [upd2, upd]
theorem links_set (f : Nat → Nat) (x : Nat) {j : Nat} (hj : j < 12) : (links f).set j (.int .i32 (x : Nat)) = links (upd f j x) := by
  have := upd_links f x [] hj
  simpa using this
section
variable {w : World} {l : Nat} {v : Value} {s : Ls} {bytes steps : Int}
theorem link_box (v : Value) (f : Nat → Nat) (b t : Int) (x : Nat) {j : Nat} (hj : j < 12) : (listCells v f b t).toArray.setIfInBounds (1 + j) (.int .i32 (x : Nat)) = (listCells v (upd f j x) b t).toArray := by
  have e := upd_links f x [.int .i64 b, .int .i64 t] hj
  simp only [listCells, List.setIfInBounds_toArray] at e ⊢
  rw [Nat.add_comm, List.set_cons_succ]
  simpa using e
/-- a link is turned -/
theorem link_turn (h : SkMem w l v s bytes steps) (p : Nat) (hp : p ≤ s.n) : ∃ b o,
    (Calls Tryd.prog 54 #[.pointer (some ⟨l, 0, none⟩), .int .i32 p] w fun e w' => e = .returned (.pointer (some ⟨b, o, none⟩)) ∧ w = w') ∧
    b ∈ feet l v ∧ ∀ j, j < 12 → w.cell? ⟨b, o + j, none⟩ = some (.int .i32 (s.nx p j : Nat)) ∧ w.frozen? ⟨b, o + j, none⟩ = false ∧
      ∀ (W : World) (x : Nat), SkMem W l v s bytes steps → SkMem (W.setCell ⟨b, o + j, none⟩ (.int .i32 (x : Nat))) l v { s with nx := upd2 s.nx p j x } bytes steps := by
  by_cases e : p = 0
  · subst e
    refine ⟨l, 1, next_none, by simp [feet], fun j hj => ⟨h.first hj, free_in h.box _, fun W x hW => ⟨?_, ?_, hW.few, hW.apart⟩⟩⟩
    · refine (heap_set hW.box (1 + j) _).trans ?_
      rw [link_box _ _ _ _ _ hj]
      show _ = some (Obj.cells (listCells v (upd2 s.nx 0 j x 0) bytes steps).toArray _ _)
      rw [upd2_at]
    · have ha : arena { s with nx := upd2 s.nx 0 j x } = arena s := by
        unfold arena
        have e : (fun i => twCells (s.K (i + 1)) (s.V (i + 1)) (s.H (i + 1)) (upd2 s.nx 0 j x (i + 1))) = fun i => twCells (s.K (i + 1)) (s.V (i + 1)) (s.H (i + 1)) (s.nx (i + 1)) := by
          funext i; rw [upd2_other (by omega)]
        exact congrArg (fun f => (List.range s.n).flatMap f) e
      rw [ha]
      exact ownsRow_kept hW.row (fun g hg => Below.heap_setCell _ _ _ _ (fun e => hW.apart (by rw [hg, e])))
  · obtain ⟨g, cap, hv, hg, hc⟩ := h.tower (p := p) (by omega) hp
    refine ⟨g, (p - 1) * 15 + 3, next_some (by rw [h.cell0, hv]) (by omega) hp h.few, by simp [feet, hv, Value.ownBlock], fun j hj => ?_⟩
    rw [Nat.add_assoc]
    refine ⟨(hc (3 + j) _ (tw_link _ _ _ _ hj)).1, (hc (3 + j) _ (tw_link _ _ _ _ hj)).2, fun W x hW => ⟨?_, ?_, hW.few, hW.apart⟩⟩
    · refine (Below.heap_setCell _ _ _ _ (by show l ≠ g; omega)).trans (hW.box.trans ?_)
      show some (Obj.cells (listCells v (s.nx 0) bytes steps).toArray _ _) = some (Obj.cells (listCells v (upd2 s.nx p j x 0) bytes steps).toArray _ _)
      rw [upd2_other (Ne.symm e)]
    · have ha : arena { s with nx := upd2 s.nx p j x } = (arena s).set ((p - 1) * 15 + (3 + j)) (.int .i32 (x : Nat)) := by
        refine arena_set (s := s) (s' := { s with nx := upd2 s.nx p j x }) (p := p) (j := 3 + j) rfl (by omega) hp (by omega) _ ?_ (fun q hq _ => ?_)
        · show twCells _ _ _ (upd2 s.nx p j x p) = _
          rw [upd2_at]
          unfold twCells
          rw [show 3 + j = j + 1 + 1 + 1 by omega, List.set_cons_succ, List.set_cons_succ, List.set_cons_succ, links_set _ _ hj]
        · show twCells _ _ _ (upd2 s.nx p j x q) = _
          rw [upd2_other hq]
      rw [ha]
      have hr := hW.row
      rw [hv] at hr ⊢
      exact row_set hr (by rw [arena_len]; omega) _
end
end Go.Proofs.YtadejeoiffaimaaDoor.Sk
