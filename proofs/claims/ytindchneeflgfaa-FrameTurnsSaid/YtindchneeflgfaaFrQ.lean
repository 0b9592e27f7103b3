/-
  The law FrameTurns, walked where nothing is turned or too much is there. Conditions: as each theorem states.
-/
import Derived.Test.YtindchneeflgfaaFrP
import Derived.Test.YtindchneeflgfaaFrAwake
namespace Go.Proofs.Ytindchneeflgfaa.frameTurns
open Go.RowKit Go.Shelf
open Go.Proofs.Ytindchneeflgfaa
open Vi
variable {w : World}

attribute [local go_sem] Oper.semAt_some

theorem on_below {w w' : World} {A : Option Addr} {l : List (List UInt8)} (h : Hid (SRow w A l)) (hb : Below w.heap.size w w') : Hid (SRow w' A l) := h.out.below hb (Nat.le_refl _)
/-- The two boxes of a law: its row's, and its answer's. -/
def Bx (w : World) (A : Option Addr) (c m : Nat) (v : Bool) (W : World) : Prop :=
  W.heap[w.heap.size]? = some (.cells #[.slice A m c] 35) ∧ W.heap[w.heap.size + 1]? = some (.cells #[.bool v] 4) ∧ Below w.heap.size w W
theorem bx_start (w : World) (A : Option Addr) (c m : Nat) : Hid (Bx w A c m false ((w.alloc (.cells #[.slice A m c] 35)).alloc (.cells #[.bool false] 4))) :=
  ⟨(Below.heap_alloc _ _ _ (by simp)).trans (heap_alloc_last w _), by
    have := heap_alloc_last (w.alloc (.cells #[.slice A m c] 35)) (.cells #[.bool false] 4)
    rwa [World.size_alloc] at this, ((Below.refl _ w).alloc (Nat.le_refl _) _).alloc (by simp) _⟩
theorem Bx.lt {w W : World} {A : Option Addr} {c m : Nat} {v : Bool} (h : Bx w A c m v W) : w.heap.size + 1 < W.heap.size := (Array.getElem?_eq_some_iff.1 h.2.1).1
theorem bx_on {w W W' : World} {A : Option Addr} {c m : Nat} {v : Bool} (h : Hid (Bx w A c m v W)) (hb : Below W.heap.size W W') : Hid (Bx w A c m v W') :=
  ⟨(hb.block _ (by have := h.out.lt; omega)).trans h.out.1, (hb.block _ h.out.lt).trans h.out.2.1, h.out.2.2.trans (hb.mono h.out.2.2.size)⟩
theorem bx_cells {w W : World} {A : Option Addr} {c m : Nat} {v : Bool} (h : Hid (Bx w A c m v W)) : W.cell? ⟨w.heap.size, 0, none⟩ = some (.slice A m c) ∧ W.cell? ⟨w.heap.size + 1, 0, none⟩ = some (.bool v) ∧ W.frozen? ⟨w.heap.size + 1, 0, none⟩ = false :=
  ⟨cell_in h.out.1 0 _ rfl, cell_in h.out.2.1 0 _ rfl, free_in h.out.2.1 0⟩
/-- The answer's box is read at a plain return. -/
theorem ret_box {n : Nat} {w W : World} {tmps : Array Value} {v : Bool} {R : Ending → World → Prop} (ht : tmps[6]? = some (.pointer (some ⟨w.heap.size + 1, 0, none⟩))) (hc : W.cell? ⟨w.heap.size + 1, 0, none⟩ = some (.bool v)) (hR : R (.returned (.bool v)) W) :
    bodyPostM Fence.wide n Try.prog Try.f5 R Exit.ret { tmps := tmps, defers := [] } W := by
  refine ⟨.bool v, ?_, hR⟩
  have hres := Try.results5
  simp [results, hres, go_sem, ht, hc]
theorem owns_ints {w : World} {B : Nat} {v : Value} {es : List Nat} {m : Nat} (hm : es.length = m) (h : w.ownsRow B 3 1 v m (eCells es)) :
    ∃ E cap, v = .slice E m cap ∧ (0 < m → ∃ a, E = some a ∧ B ≤ a.block ∧ ∀ i (hi : i < es.length), w.cell? (a.add i) = some (.int .i64 (es[i] : Nat))) := by
  have hc := fun g hg => h.cells (g := g) hg
  rcases h.2 with ⟨rfl, h0⟩ | ⟨g, cap, cur, rfl, hb, hg, _⟩
  · exact ⟨none, 0, by rw [h0], fun h1 => by omega⟩
  · refine ⟨some ⟨g, 0, none⟩, cap, rfl, fun _ => ⟨_, rfl, hb, fun i hi => ?_⟩⟩
    have := hc g rfl i (.int .i64 (es[i] : Nat)) (by simp [eCells, hi])
    exact this
theorem wrap64_small {x : Int} (h1 : -9223372036854775808 ≤ x) (h2 : x ≤ 9223372036854775807) : wrap64 x = x := by
  unfold wrap64; omega
theorem cut_at (cut : Int) (G : Nat) (hG : G ≤ 1000000) : ∃ k : Nat, wrap64 ((IntKind.u64.wrap cut).tmod ((G : Int) + 1)) = (k : Int) ∧ k ≤ G := by
  have hu : 0 ≤ IntKind.u64.wrap cut := by
    have : IntKind.u64.wrap cut = cut % 18446744073709551616 := by simp [IntKind.wrap, IntKind.bits, IntKind.signed]
    omega
  have e : (IntKind.u64.wrap cut).tmod ((G : Int) + 1) = IntKind.u64.wrap cut % ((G : Int) + 1) := Int.tmod_eq_emod_of_nonneg hu
  have h0 := Int.emod_nonneg (IntKind.u64.wrap cut) (show (G : Int) + 1 ≠ 0 by omega)
  have h1 := Int.emod_lt_of_pos (IntKind.u64.wrap cut) (show (0 : Int) < (G : Int) + 1 by omega)
  refine ⟨(IntKind.u64.wrap cut % ((G : Int) + 1)).toNat, ?_, by omega⟩
  rw [e, show wrap64 (IntKind.u64.wrap cut % ((G : Int) + 1)) = IntKind.u64.wrap cut % ((G : Int) + 1) from wrap64_small (by omega) (by omega)]
  omega
theorem wrap_len (G : Nat) (hG : G ≤ 1000000) : wrap64 ((G : Int) + 1) = (G : Int) + 1 ∧ IntKind.u64.wrap ((G : Int) + 1) = (G : Int) + 1 :=
  ⟨wrap64_small (by omega) (by omega), by simp [IntKind.wrap, IntKind.bits, IntKind.signed]; omega⟩
/-- What a round leaves: all cells of the loop's start but its counter's. -/
def Keeps (W5 : World) (N : Nat) (W : World) : Prop := ∀ p v, W5.cell? p = some v → p.block ≠ N → W.cell? p = some v
theorem cell_other {W : World} {a p : Addr} (v : Value) (h : p.block ≠ a.block) : (W.setCell a v).cell? p = W.cell? p := by
  unfold World.cell?; rw [Below.heap_setCell _ _ _ _ h]
theorem cell_lt {w : World} {p : Addr} {v : Value} (h : w.cell? p = some v) : p.block < w.heap.size := by
  rcases Nat.lt_or_ge p.block w.heap.size with h' | h'
  · exact h'
  · unfold World.cell? at h
    rw [Array.getElem?_eq_none h'] at h
    simp at h
theorem pre_snoc {xs pre : List RecX} {x : RecX} (h : pre <+: xs) (hm : pre.length < xs.length) (hx : xs[pre.length] = x) : pre ++ [x] <+: xs := by
  obtain ⟨r, rfl⟩ := h
  match r with
  | [] => simp at hm
  | y :: r =>
    simp at hx
    subst hx
    exact ⟨r, by simp⟩
theorem pre_at {xs pre : List RecX} {x : RecX} (h : pre ++ [x] <+: xs) : ∃ hm : pre.length < xs.length, xs[pre.length] = x := by
  obtain ⟨r, rfl⟩ := h
  exact ⟨by simp, by simp⟩
theorem zip_at {l : List (List UInt8)} {es : List Nat} (m : Nat) (h1 : m < l.length) (h2 : m < es.length) (h : m < (l.zip es).length) : (l.zip es)[m] = (l[m], es[m]) := by simp
theorem ret_box_d {n : Nat} {w W : World} {tmps : Array Value} {v : Bool} {D : Nat} {R : Ending → World → Prop} (ht : tmps[6]? = some (.pointer (some ⟨w.heap.size + 1, 0, none⟩))) (hK : W.heap[D]? = some (.deferred (some []))) (hc : W.cell? ⟨w.heap.size + 1, 0, none⟩ = some (.bool v)) (hR : R (.returned (.bool v)) (W.putObj D (.deferred none))) :
    bodyPostM Fence.wide n Try.prog Try.f5 R Exit.ret { tmps := tmps, defers := [{ target := .collected D, args := #[] }] } W := by
  refine ⟨by simp, .inl ⟨_, _, rfl, run_takeDeferred hK, ⟨.bool v, ?_, hR⟩⟩⟩
  have hres := Try.results5
  have hc5 := cell_kept hc (grownBy_putObj' _ D (.deferred none)) (fun r e => by cases e; exact ⟨_, hK, rfl⟩)
  simp [results, hres, go_sem, ht, hc5]
theorem cnt_snoc (k : Nat) (es : List Nat) (e : Nat) : cnt k (es ++ [e]) = cnt k es + (if e ≤ k then 1 else 0) := by
  unfold cnt
  rw [List.filter_append, List.length_append]
  by_cases h : e ≤ k <;> simp [h]
theorem cnt_le (k : Nat) (es : List Nat) : cnt k es ≤ es.length := List.length_filter_le _ _
theorem long_at {l : List (List UInt8)} (h : ¬ ∀ s ∈ l, s.length ≤ 400) : ∃ k, ∃ hk : k < l.length, 400 < l[k].length ∧ ∀ i (hi : i < l.length), i < k → l[i].length ≤ 400 := by
  induction l with
  | nil => exact absurd (fun s hs => by cases hs) h
  | cons x l ih =>
    by_cases hx : x.length ≤ 400
    · obtain ⟨k, hk, h1, h2⟩ := ih (fun h' => h (fun s hs => by
        rcases List.mem_cons.1 hs with rfl | hs
        · exact hx
        · exact h' s hs))
      refine ⟨k + 1, by simp; omega, by simpa using h1, fun i hi hlt => ?_⟩
      match i with
      | 0 => simpa using hx
      | i + 1 => simpa using h2 i (by simpa using hi) (by omega)
    · exact ⟨0, by simp, by simp; omega, fun i hi hlt => by omega⟩
set_option maxRecDepth 100000 in
set_option maxHeartbeats 4000000 in
theorem odd_in (n : Nat) (hn : 4 ≤ n) (A : Option Addr) (c : Nat) (l : List (List UInt8)) (hlm : l.length ≤ 9223372036854775807) (at_ : Int) (tv : Nat) (htv : tv < 256) (h : l.length < 1 ∨ (1 ≤ l.length ∧ 10 < l.length) ∨ (1 ≤ l.length ∧ l.length ≤ 10 ∧ tv = 0)) (w : World) :
    CallsIn Fence.wide n Try.prog 5 #[.slice A l.length c, .int .i64 at_, .int .u8 tv] w fun e W' => e = .returned (.bool true) ∧ Below w.heap.size w W' := by
  rcases h with h | ⟨h', h⟩ | ⟨h', h'', rfl⟩
  all_goals
    have h1 : 1 ≤ n := by omega
    refine callsIn_of_wp_marks Try.func5 rfl trivial ?_ rfl
    simp only [Try.ntmps5, List.size_toArray, List.length_cons, List.length_nil, Nat.reduceAdd, Nat.reduceSub, Array.replicate_succ, Array.replicate_zero, List.push_toArray, List.append_toArray, List.nil_append, List.cons_append]
    gi_wp2_with (first | (refine ⟨trivial, ?_⟩; gi_at_call 6; refine (callsIn_wide.2 (awake_any _)).mono ?_; rintro e w1 ⟨rfl, hb1⟩; have B1 := bx_on (bx_start w A c l.length) hb1; obtain ⟨hc0, hc1, hf1⟩ := bx_cells B1))
    refine ret_box rfl (World.cell?_setCell_same' _ _ _ (by rw [hc1]; rfl)) ⟨rfl, B1.out.2.2.setCell (p := ⟨w.heap.size + 1, 0, none⟩) (by simp) _⟩
set_option maxRecDepth 100000 in
set_option maxHeartbeats 4000000 in
theorem long_in (n : Nat) (hn : 4 ≤ n) (A : Option Addr) (c : Nat) (l : List (List UInt8)) (hl1 : 1 ≤ l.length) (hl : l.length ≤ 10) (RA : Hid (SRow w A l)) (k : Nat) (hk : k < l.length) (hlong : 400 < l[k].length) (hmx : l[k].length ≤ 9223372036854775807) (hsh : ∀ i (hi : i < l.length), i < k → l[i].length ≤ 400) (at_ : Int) (tv : Nat) (htv : tv < 256) (ht0 : 0 < tv) :
    CallsIn Fence.wide n Try.prog 5 #[.slice A l.length c, .int .i64 at_, .int .u8 tv] w fun e W' => e = .returned (.bool true) ∧ Below w.heap.size w W' := by
  have hbz := bs_size
  have hte : ((tv : Int) == 0) = false := by simp; omega
  have h1 : 1 ≤ n := by omega
  refine callsIn_of_wp_marks Try.func5 rfl trivial ?_ rfl
  simp only [Try.ntmps5, List.size_toArray, List.length_cons, List.length_nil, Nat.reduceAdd, Nat.reduceSub, Array.replicate_succ, Array.replicate_zero, List.push_toArray, List.append_toArray, List.nil_append, List.cons_append]
  gi_wp2_with (first | (refine ⟨trivial, ?_⟩; gi_at_call 6; refine (callsIn_wide.2 (awake_any _)).mono ?_; rintro e w1 ⟨rfl, hb1⟩; have B1 := bx_on (bx_start w A c l.length) hb1; obtain ⟨hc0, hc1, hf1⟩ := bx_cells B1))
  have RA1 := on_below (on_below RA (((Below.refl _ w).alloc (Nat.le_refl _) (.cells #[.slice A l.length c] 35)).alloc (by simp) (.cells #[.bool false] 4))) hb1
  obtain ⟨a, rfl, hab, hca⟩ := RA1.out (by omega)
  have HC := Lib.hid hca
  clear hca
  gi_loop [34] (fun i => ∃ j : Nat, j ≤ k ∧ i = .int .i64 j) (fun i => l.length - (intOf i).toNat)
  case atStart => exact ⟨0, by omega, rfl⟩
  case round =>
    obtain ⟨j, hj, rfl⟩ := hrel
    have x0 := HC.out j (by omega)
    by_cases hjk : j < k
    · have hs := hsh j (by omega) hjk
      generalize l[j]'(by omega) = s at x0 hs
      gi_wp2
      exact ⟨⟨j + 1, by omega, by go_num⟩, by simp [intOf]; omega⟩
    · obtain rfl : j = k := by omega
      generalize l[j] = s at x0 hlong hmx
      gi_wp2
      refine ret_box rfl (World.cell?_setCell_same' _ _ _ (by rw [hc1]; rfl)) ⟨rfl, B1.out.2.2.setCell (p := ⟨w.heap.size + 1, 0, none⟩) (by simp) _⟩
end Go.Proofs.Ytindchneeflgfaa.frameTurns
