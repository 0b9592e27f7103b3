/-
  A skip list as it lies in memory; its towers and links, walked. Conditions: as each theorem states.
-/
import Derived.Test.YtadejeoiffaimaaDoorSkIns
import Derived.Test.YtadejeoiffaimaaDoorSkW
import Derived.Test.YtadejeoiffaimaaDoorShelf
import Derived.Outline
import Derived.WalkMore
import Derived.ScopeJumps
import Derived.IntWalk
namespace Go.Proofs.YtadejeoiffaimaaDoor.Sk
open Go.RowKit

def links (f : Nat → Nat) : List Value := (List.range 12).map fun j => .int .i32 (f j : Nat)
def listCells (v : Value) (f : Nat → Nat) (bytes steps : Int) : List Value := v :: (links f ++ [.int .i64 bytes, .int .i64 steps])
def twCells (k v : ByteArray) (h : Nat) (f : Nat → Nat) : List Value := .string k :: .string v :: .int .i64 (h : Nat) :: links f
def arena (s : Ls) : List Value := (List.range s.n).flatMap fun i => twCells (s.K (i + 1)) (s.V (i + 1)) (s.H (i + 1)) (s.nx (i + 1))
theorem links_at (f : Nat → Nat) {j : Nat} (h : j < 12) : (links f)[j]? = some (.int .i32 (f j : Nat)) := by simp [links, h]
theorem links_len (f : Nat → Nat) : (links f).length = 12 := by simp [links]
theorem list_link (v : Value) (f : Nat → Nat) (b s : Int) {j : Nat} (h : j < 12) : (listCells v f b s).toArray[1 + j]? = some (.int .i32 (f j : Nat)) := by
  rw [List.getElem?_toArray, Nat.add_comm, listCells, List.getElem?_cons_succ, List.getElem?_append_left (by rw [links_len]; exact h), links_at f h]
theorem tw_len15 (k v : ByteArray) (h : Nat) (f : Nat → Nat) : (twCells k v h f).length = 15 := by simp [twCells, links]
theorem tw_link (k v : ByteArray) (h : Nat) (f : Nat → Nat) {j : Nat} (hj : j < 12) : (twCells k v h f)[3 + j]? = some (.int .i32 (f j : Nat)) := by
  rw [Nat.add_comm]; exact links_at f hj
theorem flat_at {α : Type} (F : Nat → List α) (m : Nat) (hF : ∀ i, (F i).length = m) : ∀ (n i j : Nat), i < n → j < m → ((List.range n).flatMap F)[i * m + j]? = (F i)[j]?
  | 0, i, j, h, _ => by omega
  | n + 1, i, j, h, hj => by
    rw [List.range_succ, List.flatMap_append]
    have hl : ((List.range n).flatMap F).length = n * m := by
      clear h
      induction n with
      | zero => simp
      | succ n ih => rw [List.range_succ, List.flatMap_append, List.length_append, ih, Nat.succ_mul]; simp [hF]
    by_cases e : i = n
    · subst e
      rw [List.getElem?_append_right (by rw [hl]; omega), hl, Nat.add_sub_cancel_left]
      simp
    · have : i * m + j < n * m := by
        have h1 : (i + 1) * m ≤ n * m := Nat.mul_le_mul_right m (by omega)
        rw [Nat.succ_mul] at h1; omega
      rw [List.getElem?_append_left (by rw [hl]; exact this)]
      exact flat_at F m hF n i j (by omega) hj
theorem arena_at (s : Ls) {p j : Nat} (h1 : 1 ≤ p) (h2 : p ≤ s.n) (hj : j < 15) : (arena s)[(p - 1) * 15 + j]? = (twCells (s.K p) (s.V p) (s.H p) (s.nx p))[j]? := by
  have := flat_at (fun i => twCells (s.K (i + 1)) (s.V (i + 1)) (s.H (i + 1)) (s.nx (i + 1))) 15 (fun i => tw_len15 _ _ _ _) s.n (p - 1) j (by omega) hj
  rw [show p - 1 + 1 = p by omega] at this
  exact this
theorem arena_len (s : Ls) : (arena s).length = s.n * 15 := by
  unfold arena
  induction s.n with
  | zero => simp
  | succ n ih => rw [List.range_succ, List.flatMap_append, List.length_append, ih, Nat.succ_mul]; simp [tw_len15]

def total (P : List Pr) : Nat := (P.map fun x => x.1.size + x.2.size).sum
structure SkAt (w : World) (l : Nat) (v : Value) (s : Ls) (bytes steps : Int) : Prop where
  box : w.heap[l]? = some (.cells (listCells v (s.nx 0) bytes steps).toArray 66 (0, 0))
  row : w.ownsRow 0 79 15 v s.n (arena s)
  ok : Ok s
  few : s.n ≤ 65536
  apart : v.ownBlock ≠ some l
  fit : ∀ p ∈ s.S, (s.K p).size ≤ 1099511627776 ∧ (s.V p).size ≤ 1099511627776
  tot : bytes = (total (pairs s) : Nat)
structure SkMem (w : World) (l : Nat) (v : Value) (s : Ls) (bytes steps : Int) : Prop where
  box : w.heap[l]? = some (.cells (listCells v (s.nx 0) bytes steps).toArray 66 (0, 0))
  row : w.ownsRow 0 79 15 v s.n (arena s)
  few : s.n ≤ 65536
  apart : v.ownBlock ≠ some l
theorem SkAt.mem {w : World} {l : Nat} {v : Value} {s : Ls} {bytes steps : Int} (h : SkAt w l v s bytes steps) : SkMem w l v s bytes steps := ⟨h.box, h.row, h.few, h.apart⟩
def feet (l : Nat) (v : Value) : List Nat := l :: v.ownBlock.toList
section
variable {w : World} {l : Nat} {v : Value} {s : Ls} {bytes steps : Int}
theorem SkAt.lt (h : SkAt w l v s bytes steps) : ∀ k ∈ feet l v, k < w.heap.size := by
  intro k hk
  unfold feet at hk
  rcases List.mem_cons.1 hk with rfl | hk
  · exact (Array.getElem?_eq_some_iff.1 h.box).1
  · exact ownsRow_lt h.row (by simpa using hk)
theorem SkAt.kept {w' : World} (h : SkAt w l v s bytes steps) (hk : ∀ k ∈ feet l v, w'.heap[k]? = w.heap[k]?) : SkAt w' l v s bytes steps :=
  ⟨(hk l (by simp [feet])).trans h.box, ownsRow_kept h.row (fun g hg => hk g (by simp [feet, hg])), h.ok, h.few, h.apart, h.fit, h.tot⟩
theorem SkAt.below {w' : World} (h : SkAt w l v s bytes steps) (hb : Below w.heap.size w w') : SkAt w' l v s bytes steps := h.kept fun k hk => hb.block k (h.lt k hk)
theorem SkAt.cell0 (h : SkAt w l v s bytes steps) : w.cell? ⟨l, 0, none⟩ = some v := cell_in h.box 0 _ rfl
theorem SkAt.cell13 (h : SkAt w l v s bytes steps) : w.cell? ⟨l, 13, none⟩ = some (.int .i64 bytes) := cell_in h.box 13 _ rfl
theorem SkAt.cell14 (h : SkAt w l v s bytes steps) : w.cell? ⟨l, 14, none⟩ = some (.int .i64 steps) := cell_in h.box 14 _ rfl
theorem SkAt.first (h : SkAt w l v s bytes steps) {j : Nat} (hj : j < 12) : w.cell? ⟨l, 1 + j, none⟩ = some (.int .i32 (s.nx 0 j : Nat)) := cell_in h.box (1 + j) _ (list_link _ _ _ _ hj)
/-- a tower's cells -/
theorem SkMem.tower (h : SkMem w l v s bytes steps) {p : Nat} (h1 : 1 ≤ p) (h2 : p ≤ s.n) : ∃ g cap, v = .slice (some ⟨g, 0, none⟩) s.n cap ∧ g ≠ l ∧
    (∀ j x, (twCells (s.K p) (s.V p) (s.H p) (s.nx p))[j]? = some x → w.cell? ⟨g, (p - 1) * 15 + j, none⟩ = some x ∧ w.frozen? ⟨g, (p - 1) * 15 + j, none⟩ = false) := by
  rcases h.row.2 with ⟨_, h0⟩ | ⟨g, cap, cur, hv, _, hh, _, _, _, ht⟩
  · omega
  · refine ⟨g, cap, hv, fun e => h.apart (by rw [hv]; simp [Value.ownBlock, e]), fun j x hx => ⟨?_, free_in hh _⟩⟩
    have hj : j < 15 := by
      rcases Nat.lt_or_ge j 15 with h' | h'
      · exact h'
      · rw [List.getElem?_eq_none (by rw [tw_len15]; exact h')] at hx; cases hx
    rw [← arena_at s h1 h2 hj, ← ht, List.getElem?_take] at hx
    split at hx
    · exact cell_in hh _ _ (by simpa using hx)
    · cases hx
theorem SkAt.tower (h : SkAt w l v s bytes steps) {p : Nat} (h1 : 1 ≤ p) (h2 : p ≤ s.n) : ∃ g cap, v = .slice (some ⟨g, 0, none⟩) s.n cap ∧ g ≠ l ∧
    (∀ j x, (twCells (s.K p) (s.V p) (s.H p) (s.nx p))[j]? = some x → w.cell? ⟨g, (p - 1) * 15 + j, none⟩ = some x ∧ w.frozen? ⟨g, (p - 1) * 15 + j, none⟩ = false) := h.mem.tower h1 h2
theorem SkMem.cell0 (h : SkMem w l v s bytes steps) : w.cell? ⟨l, 0, none⟩ = some v := cell_in h.box 0 _ rfl
theorem SkMem.cell13 (h : SkMem w l v s bytes steps) : w.cell? ⟨l, 13, none⟩ = some (.int .i64 bytes) := cell_in h.box 13 _ rfl
theorem SkMem.first (h : SkMem w l v s bytes steps) {j : Nat} (hj : j < 12) : w.cell? ⟨l, 1 + j, none⟩ = some (.int .i32 (s.nx 0 j : Nat)) := cell_in h.box (1 + j) _ (list_link _ _ _ _ hj)
theorem SkMem.lt (h : SkMem w l v s bytes steps) : ∀ k ∈ feet l v, k < w.heap.size := by
  intro k hk
  unfold feet at hk
  rcases List.mem_cons.1 hk with rfl | hk
  · exact (Array.getElem?_eq_some_iff.1 h.box).1
  · exact ownsRow_lt h.row (by simpa using hk)
theorem SkMem.kept {w' : World} (h : SkMem w l v s bytes steps) (hk : ∀ k ∈ feet l v, w'.heap[k]? = w.heap[k]?) : SkMem w' l v s bytes steps :=
  ⟨(hk l (by simp [feet])).trans h.box, ownsRow_kept h.row (fun g hg => hk g (by simp [feet, hg])), h.few, h.apart⟩
theorem SkMem.below {w' : World} (h : SkMem w l v s bytes steps) (hb : Below w.heap.size w w') : SkMem w' l v s bytes steps := h.kept fun k hk => hb.block k (h.lt k hk)
end
theorem tower_any {w : World} {l g n cap p : Nat} (hc : w.cell? ⟨l, 0, none⟩ = some (.slice (some ⟨g, 0, none⟩) n cap)) (h1 : 1 ≤ p) (h2 : p ≤ n) (h3 : n ≤ 65536) :
    Calls Tryd.prog 39 #[.pointer (some ⟨l, 0, none⟩), .int .i32 p] w fun e w' => e = .returned (.pointer (some ⟨g, (p - 1) * 15, none⟩)) ∧ w = w' := by
  go_enter Tryd.func39, Tryd.ntmps39
  go_wp2
  go_ret
  exact ⟨rfl, rfl⟩
theorem next_none {w : World} {l : Nat} :
    Calls Tryd.prog 54 #[.pointer (some ⟨l, 0, none⟩), .int .i32 0] w fun e w' => e = .returned (.pointer (some ⟨l, 1, none⟩)) ∧ w = w' := by
  go_enter Tryd.func54, Tryd.ntmps54
  go_wp2
  go_ret
  exact ⟨rfl, rfl⟩
theorem next_some {w : World} {l g n cap p : Nat} (hc : w.cell? ⟨l, 0, none⟩ = some (.slice (some ⟨g, 0, none⟩) n cap)) (h1 : 1 ≤ p) (h2 : p ≤ n) (h3 : n ≤ 65536) :
    Calls Tryd.prog 54 #[.pointer (some ⟨l, 0, none⟩), .int .i32 p] w fun e w' => e = .returned (.pointer (some ⟨g, (p - 1) * 15 + 3, none⟩)) ∧ w = w' := by
  have hp : ((p : Int) == 0) = false := by simp; omega
  go_enter Tryd.func54, Tryd.ntmps54
  go_wp2_with (go_at_call 39; (with_reducible refine (tower_any hc h1 h2 h3).mono ?_); rintro e w' ⟨rfl, rfl⟩)
  go_ret
  exact ⟨rfl, rfl⟩
/-- where a tower's links lie -/
theorem next_mem {w : World} {l : Nat} {v : Value} {s : Ls} {bytes steps : Int} (h : SkMem w l v s bytes steps) (p : Nat) (hp : p ≤ s.n) : ∃ b o,
    (Calls Tryd.prog 54 #[.pointer (some ⟨l, 0, none⟩), .int .i32 p] w fun e w' => e = .returned (.pointer (some ⟨b, o, none⟩)) ∧ w = w') ∧
    b ∈ feet l v ∧ ∀ j, j < 12 → w.cell? ⟨b, o + j, none⟩ = some (.int .i32 (s.nx p j : Nat)) ∧ w.frozen? ⟨b, o + j, none⟩ = false := by
  by_cases e : p = 0
  · subst e
    exact ⟨l, 1, next_none, by simp [feet], fun j hj => ⟨h.first hj, free_in h.box _⟩⟩
  · obtain ⟨g, cap, hv, hg, hc⟩ := h.tower (p := p) (by omega) hp
    refine ⟨g, (p - 1) * 15 + 3, next_some (by rw [h.cell0, hv]) (by omega) hp h.few, by simp [feet, hv, Value.ownBlock], fun j hj => ?_⟩
    rw [Nat.add_assoc]
    exact hc (3 + j) _ (tw_link _ _ _ _ hj)
theorem next_any {w : World} {l : Nat} {v : Value} {s : Ls} {bytes steps : Int} (h : SkAt w l v s bytes steps) (p : Nat) (hp : p ≤ s.n) : ∃ b o,
    (Calls Tryd.prog 54 #[.pointer (some ⟨l, 0, none⟩), .int .i32 p] w fun e w' => e = .returned (.pointer (some ⟨b, o, none⟩)) ∧ w = w') ∧
    b ∈ feet l v ∧ ∀ j, j < 12 → w.cell? ⟨b, o + j, none⟩ = some (.int .i32 (s.nx p j : Nat)) ∧ w.frozen? ⟨b, o + j, none⟩ = false := next_mem h.mem p hp
def cmpB (x y : ByteArray) : Int := if lt x y = true then -1 else if x = y then 0 else 1
theorem nan_str (s : ByteArray) (w : World) : Calls Tryd.prog 43 #[.string s] w fun e w' => e = .returned (.bool false) ∧ w = w' := by
  go_enter Tryd.func43, Tryd.ntmps43
  go_wp2
  go_ret
  exact ⟨rfl, rfl⟩
theorem cmp_any (x y : ByteArray) (w : World) : Calls Tryd.prog 26 #[.string x, .string y] w fun e w' => e = .returned (.int .i64 (cmpB x y)) ∧ w = w' := by
  by_cases h : lt x y = true
  · rw [show cmpB x y = -1 from if_pos h]
    unfold lt at h
    go_enter Tryd.func26, Tryd.ntmps26
    go_wp2_with (go_at_call 43; refine (nan_str _ _).mono ?_; rintro e w' ⟨rfl, rfl⟩)
    go_ret
    exact ⟨rfl, rfl⟩
  · by_cases he : x = y
    · rw [show cmpB x y = 0 by unfold cmpB; rw [if_neg h, if_pos he]]
      subst he
      have h' : Op.bytesLess x.toList x.toList = false := by unfold lt at h; simpa using h
      clear h
      go_enter Tryd.func26, Tryd.ntmps26
      go_wp2_with (go_at_call 43; refine (nan_str _ _).mono ?_; rintro e w' ⟨rfl, rfl⟩)
      go_ret
      exact ⟨rfl, rfl⟩
    · rw [show cmpB x y = 1 by unfold cmpB; rw [if_neg h, if_neg he]]
      have h' : Op.bytesLess x.toList y.toList = false := by unfold lt at h; simpa using h
      have he' : (x.toList == y.toList) = false := by
        cases e : (x.toList == y.toList) with
        | false => rfl
        | true => exact absurd (list_inj (by simpa using e)) he
      clear h he
      go_enter Tryd.func26, Tryd.ntmps26
      go_wp2_with (go_at_call 43; refine (nan_str _ _).mono ?_; rintro e w' ⟨rfl, rfl⟩)
      go_ret
      exact ⟨rfl, rfl⟩
end Go.Proofs.YtadejeoiffaimaaDoor.Sk
