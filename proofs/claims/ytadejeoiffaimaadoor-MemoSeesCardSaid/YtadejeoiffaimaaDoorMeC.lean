/-
  A memo in memory: made, an entry added, its length and its bytes. Conditions: as each theorem states.
-/
import Derived.Test.YtadejeoiffaimaaDoorMeB
import Derived.Test.YtadejeoiffaimaaDoorMeI
namespace Go.Proofs.YtadejeoiffaimaaDoor.Me
open Go.RowKit
open Vi
open Go.Proofs.YtadejeoiffaimaaDoor.Sk (feet Lst Moves Only Srt pairs_srt)

/-- a memo in memory: its box b, its list l, the entries E, the number m of the cell that texts' builders look at -/
structure MemAt (w : World) (b l : Nat) (v : Value) (E : List En) (n : Nat) (m : Int) : Prop where
  box : w.heap[b]? = some (.cells #[.pointer (some ⟨l, 0, none⟩), .int .i64 (overE E : Nat)] 47 (0, 0))
  lst : Lst w l v (E.map pr) n
  good : ∀ x ∈ E, x.good
  off : b ∉ feet l v
  glo : w.cell? ⟨0, 0, none⟩ = some (.int .i64 m)
  pos : 0 < b
  low : ∀ k ∈ feet l v, 0 < k
  ov : overE E ≤ 65536 * 1000
def mfeet (b l : Nat) (v : Value) : List Nat := b :: feet l v
theorem MemAt.blt {w : World} {b l : Nat} {v : Value} {E : List En} {n : Nat} {m : Int} (h : MemAt w b l v E n m) : b < w.heap.size := (Array.getElem?_eq_some_iff.1 h.box).1
theorem MemAt.lt {w : World} {b l : Nat} {v : Value} {E : List En} {n : Nat} {m : Int} (h : MemAt w b l v E n m) : ∀ k ∈ mfeet b l v, k < w.heap.size := by
  intro k hk
  rcases List.mem_cons.1 hk with rfl | hk
  · exact h.blt
  · exact h.lst.lt k hk
theorem MemAt.kept {w w' : World} {b l : Nat} {v : Value} {E : List En} {n : Nat} {m : Int} (h : MemAt w b l v E n m) (hk : ∀ k ∈ mfeet b l v, w'.heap[k]? = w.heap[k]?) (h0 : w'.cell? ⟨0, 0, none⟩ = w.cell? ⟨0, 0, none⟩) : MemAt w' b l v E n m :=
  ⟨(hk b (by simp [mfeet])).trans h.box, h.lst.kept (fun k hm => hk k (by simp [mfeet, hm])), h.good, h.off, h0.trans h.glo, h.pos, h.low, h.ov⟩
theorem MemAt.below {w w' : World} {b l : Nat} {v : Value} {E : List En} {n : Nat} {m : Int} (h : MemAt w b l v E n m) (hb : Below w.heap.size w w') : MemAt w' b l v E n m :=
  h.kept (fun k hk => hb.block k (h.lt k hk)) (hb.cell (p := ⟨0, 0, none⟩) (cell_lt h.glo))
theorem MemAt.drew {w : World} {b l : Nat} {v : Value} {E : List En} {n : Nat} {m : Int} (h : MemAt w b l v E n m) : MemAt w.drew b l v E n m := h.below (below_drew w)
theorem box2 {W : World} {g : Nat} {a b : Value} {t : TypeId} (h : W.heap[g]? = some (.cells #[a, b] t (0, 0))) : W.cell? ⟨g, 0, none⟩ = some a ∧ W.cell? ⟨g, 1, none⟩ = some b := ⟨cell_in h 0 _ rfl, cell_in h 1 _ rfl⟩
theorem new_any {w : World} (m : Int) (hm : w.cell? ⟨0, 0, none⟩ = some (.int .i64 m)) :
    Calls Tryd.prog 7 #[] w fun e w' => ∃ b l, e = .returned (.pointer (some ⟨b, 0, none⟩)) ∧ MemAt w' b l (.slice none 0 0) [] 0 m ∧ (∀ k ∈ mfeet b l (.slice none 0 0), w.heap.size ≤ k) ∧ Below w.heap.size w w' := by
  have hlt := cell_lt hm
  go_enter Tryd.func7, Tryd.ntmps7
  go_wp2_with (go_at_call 19; refine (Sk.new_any _).mono ?_; rintro e w1 ⟨rfl, h1, b1⟩)
  go_ret
  have hl := h1.lt w.heap.size (by simp [feet])
  have hb : Below w.heap.size w (w1.alloc (.cells #[.pointer (some ⟨w.heap.size, 0, none⟩), .int .i64 0] 47)) := b1.alloc b1.size _
  refine ⟨w1.heap.size, w.heap.size, rfl, ⟨heap_alloc_new w1 _, h1.below ((Below.refl _ w1).alloc (Nat.le_refl _) _), by simp, ?_, (hb.cell (p := ⟨0, 0, none⟩) hlt).trans hm, ?_, ?_, by simp [overE]⟩, ?_, hb⟩
  · simp [feet, Value.ownBlock]; omega
  · exact Nat.lt_of_le_of_lt (Nat.zero_le _) hl
  · intro k hk
    simp [feet, Value.ownBlock] at hk
    have : (0 : Nat) < w.heap.size := hlt
    omega
  · intro k hk
    simp [mfeet, feet, Value.ownBlock] at hk
    rcases hk with rfl | rfl
    · exact b1.size
    · exact Nat.le_refl _
theorem pairs_raw {w : World} {b l : Nat} {x : Value} (h : w.heap[b]? = some (.cells #[.pointer (some ⟨l, 0, none⟩), x] 47 (0, 0))) :
    Calls Tryd.prog 29 #[.pointer (some ⟨b, 0, none⟩)] w fun e w' => e = .returned (.pointer (some ⟨l, 0, none⟩)) ∧ w = w' := by
  obtain ⟨k0, k1⟩ := box2 h
  go_enter Tryd.func29, Tryd.ntmps29
  go_wp2
  go_ret
  exact ⟨rfl, rfl⟩
theorem pairs_any {w : World} {b l : Nat} {v : Value} {E : List En} {n : Nat} {m : Int} (h : MemAt w b l v E n m) :
    Calls Tryd.prog 29 #[.pointer (some ⟨b, 0, none⟩)] w fun e w' => e = .returned (.pointer (some ⟨l, 0, none⟩)) ∧ w = w' := pairs_raw h.box
theorem len_raw {w : World} {b l n : Nat} {v x : Value} {P : List Sk.Pr} (h : w.heap[b]? = some (.cells #[.pointer (some ⟨l, 0, none⟩), x] 47 (0, 0))) (hl : Lst w l v P n) :
    Calls Tryd.prog 12 #[.pointer (some ⟨b, 0, none⟩)] w fun e w' => e = .returned (.int .i64 (P.length : Nat)) ∧ w = w' := by
  have H := Lib.hid h
  have HL := Lib.hid hl
  clear h hl
  go_enter Tryd.func12, Tryd.ntmps12
  go_wp2_with (first
    | (go_at_call 29; refine (pairs_raw H.out).mono ?_; rintro e w1 ⟨rfl, rfl⟩)
    | (go_at_call 30; refine (Sk.lenL_any HL.out).mono ?_; rintro e w1 ⟨rfl, rfl⟩))
  go_ret
  exact ⟨rfl, rfl⟩
theorem len_any {w : World} {b l : Nat} {v : Value} {E : List En} {n : Nat} {m : Int} (h : MemAt w b l v E n m) :
    Calls Tryd.prog 12 #[.pointer (some ⟨b, 0, none⟩)] w fun e w' => e = .returned (.int .i64 (E.length : Nat)) ∧ w = w' := by
  have := len_raw h.box h.lst
  rw [List.length_map] at this
  exact this
theorem over_le {e : En} (h : e.good) : over e ≤ 1000 := by
  have := kb_len e
  unfold over plc
  rw [bs_size]; omega
theorem overE_le : ∀ (E : List En), (∀ x ∈ E, x.good) → overE E ≤ E.length * 1000
  | [], _ => by simp [overE]
  | e :: E, h => by
    have ih := overE_le E (fun x hx => h x (by simp [hx]))
    have h1 := over_le (h e (by simp))
    unfold overE at *
    simp only [List.map_cons, List.sum_cons, List.length_cons]
    omega
/-! an entry more: what is counted -/
def same3 (x e : En) : Bool := !ahead x e && !ahead e x
theorem sum_parts (f : En → Nat) (e : En) (hx : ∀ x y, ahead x y = true → ahead y x = false) : ∀ (E : List En),
    (E.map f).sum = ((E.filter (fun x => ahead x e)).map f).sum + ((E.filter (fun x => same3 x e)).map f).sum + ((E.filter (fun x => ahead e x)).map f).sum
  | [] => rfl
  | y :: E => by
    have ih := sum_parts f e hx E
    rw [List.map_cons, List.sum_cons, ih]
    cases h1 : ahead y e with
    | true =>
      have h2 := hx _ _ h1
      rw [List.filter_cons_of_pos (by simpa using h1), List.filter_cons_of_neg (by simp [same3, h1]), List.filter_cons_of_neg (by simp [h2]), List.map_cons, List.sum_cons]; omega
    | false =>
      cases h2 : ahead e y with
      | true => rw [List.filter_cons_of_neg (by simp [h1]), List.filter_cons_of_neg (by simp [same3, h2]), List.filter_cons_of_pos (by simpa using h2), List.map_cons, List.sum_cons]; omega
      | false => rw [List.filter_cons_of_neg (by simp [h1]), List.filter_cons_of_pos (by simp [same3, h1, h2]), List.filter_cons_of_neg (by simp [h2]), List.map_cons, List.sum_cons]; omega
theorem ahead_asym {x y : En} (h : ahead x y = true) : ahead y x = false := by
  unfold ahead at *
  by_cases hk : x.key = y.key
  · rw [if_pos hk] at h
    rw [if_pos hk.symm]
    by_cases hs : x.seq = y.seq
    · rw [if_pos hs] at h
      rw [if_pos hs.symm]
      have := of_decide_eq_true h
      exact decide_eq_false (by omega)
    · rw [if_neg hs] at h
      rw [if_neg (fun e => hs e.symm)]
      have := of_decide_eq_true h
      exact decide_eq_false (by omega)
  · rw [if_neg hk] at h
    rw [if_neg (fun e => hk e.symm)]
    exact Sk.lt_anti h
theorem same3_eq {x e : En} (h : same3 x e = true) : x.key = e.key ∧ x.seq = e.seq ∧ x.kind = e.kind := by
  unfold same3 at h
  simp only [Bool.and_eq_true, Bool.not_eq_true'] at h
  obtain ⟨h1, h2⟩ := h
  unfold ahead at h1 h2
  by_cases hk : x.key = e.key
  · rw [if_pos hk] at h1
    rw [if_pos hk.symm] at h2
    by_cases hs : x.seq = e.seq
    · rw [if_pos hs] at h1
      rw [if_pos hs.symm] at h2
      have h3 := of_decide_eq_false h1
      have h4 := of_decide_eq_false h2
      exact ⟨hk, hs, by omega⟩
    · rw [if_neg hs] at h1
      rw [if_neg (fun e => hs e.symm)] at h2
      have h3 := of_decide_eq_false h1
      have h4 := of_decide_eq_false h2
      exact absurd (by omega) hs
  · rw [if_neg hk] at h1
    rw [if_neg (fun e => hk e.symm)] at h2
    exact absurd (Sk.lt_tri h1 h2) hk
theorem same3_plc {x e : En} (h : same3 x e = true) : plc x = plc e ∧ over x = over e := by
  obtain ⟨h1, h2, h3⟩ := same3_eq h
  have hp : plc x = plc e := by unfold plc row; rw [h1, h2, h3]
  exact ⟨hp, by unfold over; rw [hp, h1]⟩
theorem mid_le {E : List En} (hs : Srt (E.map pr)) (e : En) : (E.filter (fun x => same3 x e)).length ≤ 1 := by
  unfold Srt at hs
  rw [List.pairwise_map] at hs
  have h2 := hs.sublist (List.filter_sublist (p := fun x => same3 x e) (l := E))
  have hall : ∀ x ∈ E.filter (fun x => same3 x e), plc x = plc e := fun x hx => (same3_plc (by simpa using (List.mem_filter.1 hx).2)).1
  revert h2 hall
  generalize E.filter (fun x => same3 x e) = M
  intro h2 hall
  match M, h2, hall with
  | [], _, _ => simp
  | [_], _, _ => simp
  | x :: y :: _, h2, hall =>
    have h3 := (List.pairwise_cons.1 h2).1 y (by simp)
    have h4 : Sk.lt (plc x) (plc y) = true := h3
    rw [hall x (by simp), hall y (by simp), Sk.lt_irr] at h4
    cases h4
theorem sum_const {f : En → Nat} {c : Nat} : ∀ (M : List En), (∀ x ∈ M, f x = c) → (M.map f).sum = M.length * c
  | [], _ => by simp
  | x :: M, h => by
    rw [List.map_cons, List.sum_cons, sum_const M (fun y hy => h y (by simp [hy])), h x (by simp), List.length_cons, Nat.add_mul]; omega
theorem len_sum (M : List En) : M.length = (M.map (fun _ => 1)).sum := by
  rw [sum_const (c := 1) M (fun _ _ => rfl), Nat.mul_one]
/-- either an entry stands there that is as e, but for its value; or there is one more -/
theorem add_counts {E : List En} (hs : Srt (E.map pr)) (e : En) :
    ((addE E e).length = E.length ∧ overE (addE E e) = overE E) ∨ ((addE E e).length = E.length + 1 ∧ overE (addE E e) = overE E + over e) := by
  have h1 := sum_parts over e (fun x y h => ahead_asym h) E
  have h2 := sum_parts (fun _ => 1) e (fun x y h => ahead_asym h) E
  rw [← len_sum, ← len_sum, ← len_sum, ← len_sum] at h2
  have hm := mid_le hs e
  have hc : ((E.filter (fun x => same3 x e)).map over).sum = (E.filter (fun x => same3 x e)).length * over e := sum_const _ (fun x hx => (same3_plc (by simpa using (List.mem_filter.1 hx).2)).2)
  rw [hc] at h1
  have h3 : (addE E e).length = (E.filter (fun x => ahead x e)).length + ((E.filter (fun x => ahead e x)).length + 1) := by
    unfold addE; rw [List.length_append, List.length_cons]
  have h4 : overE (addE E e) = ((E.filter (fun x => ahead x e)).map over).sum + (over e + ((E.filter (fun x => ahead e x)).map over).sum) := by
    unfold overE addE; rw [List.map_append, List.map_cons, List.sum_append, List.sum_cons]
  have h5 : overE E = (E.map over).sum := rfl
  rcases Nat.eq_zero_or_pos (E.filter (fun x => same3 x e)).length with h0 | h0
  · right
    rw [h0] at h1 h2
    rw [Nat.zero_mul] at h1
    exact ⟨by omega, by omega⟩
  · left
    have h6 : (E.filter (fun x => same3 x e)).length = 1 := by omega
    rw [h6] at h1 h2
    rw [Nat.one_mul] at h1
    exact ⟨by omega, by omega⟩
theorem moves_cons {w w' : World} {fp fp' : List Nat} (h : Moves w fp w' fp') (b : Nat) : Moves w (b :: fp) w' (b :: fp') :=
  ⟨h.only.widen (fun k hk => by simp [hk]), fun k hk => by
    rcases List.mem_cons.1 hk with rfl | hk
    · exact .inl (by simp)
    · rcases h.fresh k hk with h1 | h1
      · exact .inl (by simp [h1])
      · exact .inr h1⟩
theorem moves_set {w : World} {b j : Nat} {x : Value} (fp : List Nat) : Moves w (b :: fp) (w.setCell ⟨b, j, none⟩ x) (b :: fp) :=
  ⟨Only.of_grown (Sk.grown_set w b j x) (fun k hk => by cases hk; simp), fun k hk => .inl hk⟩
theorem put_facts {w w' : World} {b l n : Nat} {v v' : Value} {E : List En} {m : Int} (h : MemAt w b l v E n m) (hM : Moves w (feet l v) w' (feet l v')) :
    w'.heap[b]? = w.heap[b]? ∧ w'.cell? ⟨0, 0, none⟩ = w.cell? ⟨0, 0, none⟩ ∧ b ∉ feet l v' ∧ ∀ k ∈ feet l v', 0 < k := by
  have h0 : (0 : Nat) < w.heap.size := cell_lt h.glo
  refine ⟨hM.only.block b h.blt h.off, ?_, fun hm => ?_, fun k hk => ?_⟩
  · have := hM.only.block 0 h0 (fun hm => by have := h.low 0 hm; omega)
    unfold World.cell?
    simp only [this]
  · rcases hM.fresh b hm with h1 | h1
    · exact h.off h1
    · have := h.blt; omega
  · rcases hM.fresh k hk with h1 | h1
    · exact h.low k h1
    · omega
end Go.Proofs.YtadejeoiffaimaaDoor.Me
