/-
  A tower's height: the Go text walked. Conditions: as each theorem states.
-/
import Derived.Test.YtnnjbofkkaonoaaSkV
namespace Go.Proofs.Ytnnjbofkkaonoaa.Sk
open Go.RowKit Go.Shelf

section
variable {w : World} {l : Nat} {v : Value} {s : Ls} {bytes steps : Int}
theorem spot_box2 {w1 : World} {Z cs : Array Value} {T : TypeId} (h : SkAt w1 l v s bytes steps) :
    ((w1.alloc (.cells Z T)).setRow w1.heap.size cs).heap[w1.heap.size]? = some (.cells cs T (0, 0)) ∧ SkAt ((w1.alloc (.cells Z T)).setRow w1.heap.size cs) l v s bytes steps ∧ Below w1.heap.size w1 ((w1.alloc (.cells Z T)).setRow w1.heap.size cs) := by
  have hB : Below w1.heap.size w1 ((w1.alloc (.cells Z T)).setRow w1.heap.size cs) := below_setRow ((Below.refl _ w1).alloc (Nat.le_refl _) _) (Nat.le_refl _) _
  exact ⟨heap_setRow_at (heap_alloc_new w1 _), h.below hB, hB⟩
set_option maxRecDepth 100000 in
theorem height_miss (h : SkAt w l v s bytes steps) (k : ByteArray) (hn : there s k = false) :
    Calls Try.prog 15 #[.pointer (some ⟨l, 0, none⟩), .string k] w fun e w' => e = .returned (.int .i64 0) ∧ Below w.heap.size w w' := by
  obtain ⟨ah, hah⟩ : ∃ ah, prv s.H s.S (pos s k) = ah := ⟨_, rfl⟩
  obtain ⟨at_, hat⟩ : ∃ at_, nxt s.H s.S (pos s k) 0 = at_ := ⟨_, rfl⟩
  have HA := Lib.hid (And.intro hah hat)
  have HT := Lib.hid hn
  have HH := Lib.hid h
  clear h hah hat hn
  go_enter Try.func15, Try.ntmps15
  go_wp2_with (first
    | (go_at_call 27; (with_reducible refine (seek_at HH.out k HA.out HT.out).mono ?_); rintro e w1 ⟨st, hst, rfl, hs1, hb1⟩; have HS1 := Lib.hid (And.intro hs1 hb1); clear hs1 hb1)
    | (with_reducible refine wpList_store_row (o := ⟨none, .store 57 (.tmp 5) (.tmp 10), _, _, _, _⟩) ?_ 57 (.tmp 5) (.tmp 10) ?_ w1.heap.size (spotCells ah at_ false st).toArray ?_ ?_ 57 _ (heap_alloc_new w1 _) (spot_info _ _ _ _) (spot_size _ _ _ _).symm (spot_one _ _ _ _) ?_
       · rfl
       · rfl
       · rfl
       · rfl
       obtain ⟨m1, m3, m4⟩ := spot_box2 (cs := (spotCells ah at_ false st).toArray) HS1.out.1
       generalize ((w1.alloc _).setRow _ _) = W at m1 m3 m4 ⊢
       have x12 := cell_in m1 12 (.int .i32 (at_ : Nat)) rfl
       have x13 := cell_in m1 13 (.bool false) rfl
       have HS := Lib.hid (And.intro m3 m4)
       clear m1 m3 m4))
  go_ret
  exact ⟨rfl, HS1.out.2.trans (HS.out.2.mono HS1.out.2.size)⟩
set_option maxRecDepth 100000 in
theorem height_hit (h : SkAt w l v s bytes steps) (k : ByteArray) (hy : there s k = true) {p : Nat} (hp : ∃ hh : pos s k < s.S.length, s.S[pos s k] = p) :
    Calls Try.prog 15 #[.pointer (some ⟨l, 0, none⟩), .string k] w fun e w' => e = .returned (.int .i64 (s.H p : Nat)) ∧ Below w.heap.size w w' := by
  obtain ⟨ah, hah⟩ : ∃ ah, prv s.H s.S (pos s k) = ah := ⟨_, rfl⟩
  obtain ⟨hh, hp⟩ := hp
  obtain ⟨_, hat, _⟩ := there_yes h.ok hy
  rw [hp] at hat
  have HP : Hid (p ∈ s.S) := by rw [Hid, ← hp]; exact List.getElem_mem hh
  obtain ⟨h1, h2⟩ := h.ok.mem p HP.out
  have h3 := h.few
  have HA := Lib.hid (And.intro hah hat)
  have HT := Lib.hid hy
  have HH := Lib.hid h
  clear h hah hat hy hp
  go_enter Try.func15, Try.ntmps15
  go_wp2_with (first
    | (go_at_call 27; (with_reducible refine (seek_at HH.out k HA.out HT.out).mono ?_); rintro e w1 ⟨st, hst, rfl, hs1, hb1⟩; have HS1 := Lib.hid (And.intro hs1 hb1); clear hs1 hb1)
    | (go_at_call 23; (with_reducible refine (tower_any hc0.out h1 h2 h3).mono ?_); rintro e w3 ⟨rfl, rfl⟩)
    | (with_reducible refine wpList_store_row (o := ⟨none, .store 57 (.tmp 5) (.tmp 10), _, _, _, _⟩) ?_ 57 (.tmp 5) (.tmp 10) ?_ w1.heap.size (spotCells ah p true st).toArray ?_ ?_ 57 _ (heap_alloc_new w1 _) (spot_info _ _ _ _) (spot_size _ _ _ _).symm (spot_one _ _ _ _) ?_
       · rfl
       · rfl
       · rfl
       · rfl
       obtain ⟨m1, m3, m4⟩ := spot_box2 (cs := (spotCells ah p true st).toArray) HS1.out.1
       generalize ((w1.alloc _).setRow _ _) = W at m1 m3 m4 ⊢
       have x12 := cell_in m1 12 (.int .i32 (p : Nat)) rfl
       have x13 := cell_in m1 13 (.bool true) rfl
       obtain ⟨g, cap, hv, hgl, hcell⟩ := m3.tower h1 h2
       have hc0 : Hid (W.cell? ⟨l, 0, none⟩ = some (.slice (some ⟨g, 0, none⟩) s.n cap)) := by
         show W.cell? ⟨l, 0, none⟩ = some (.slice (some ⟨g, 0, none⟩) s.n cap)
         rw [m3.cell0, hv]
       have k2 := (hcell 2 _ rfl).1
       have HS := Lib.hid (And.intro m3 m4)
       clear m1 m3 m4 hcell hv))
  go_ret
  exact ⟨rfl, HS1.out.2.trans (HS.out.2.mono HS1.out.2.size)⟩
end
theorem heightH_any {w : World} {l n : Nat} {v : Value} {P : List Pr} {st : Int} {hg : ByteArray → Nat} (h : LstH w l v P n st hg) (k : ByteArray) :
    Calls Try.prog 15 #[.pointer (some ⟨l, 0, none⟩), .string k] w fun e w' => e = .returned (.int .i64 (hg k : Nat)) ∧ Below w.heap.size w w' := by
  obtain ⟨s, b, h1, _, _, h4⟩ := h
  rw [← h4 k]
  cases ht : there s k with
  | true =>
    obtain ⟨hh, _, hk⟩ := there_yes h1.ok ht
    have e : hgt s k = s.H s.S[pos s k] := by
      have := hgt_at h1.ok (List.getElem_mem hh)
      rw [hk] at this; exact this
    rw [e]
    exact height_hit h1 k ht ⟨hh, rfl⟩
  | false =>
    rw [hgt_no (there_no h1.ok ht)]
    exact height_miss h1 k ht
end Go.Proofs.Ytnnjbofkkaonoaa.Sk
