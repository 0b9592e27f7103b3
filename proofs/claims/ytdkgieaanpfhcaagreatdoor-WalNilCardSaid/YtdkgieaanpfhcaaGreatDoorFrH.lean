/-
  The records of a log, and the Go text that goes through them. Conditions: as each theorem states.
-/
import Derived.Test.YtdkgieaanpfhcaaGreatDoorFrG
import Derived.RangeFuncNested
import Derived.RangeFuncBound
import Derived.RangeFuncCalls
import Derived.RangeFuncLeaves
import Derived.Shelf.Abstract
import Derived.OwnWalkIn
import Derived.TacticsInMore
import Derived.LoopNIn
import Derived.LoopIn
namespace Go.Proofs.YtdkgieaanpfhcaaGreatDoor
open Go.RowKit Go.Shelf
open Vi

attribute [local go_sem] Oper.semAt_some

theorem rec_bd (L : List UInt8) (n : Nat) : ∀ (b : Bool) (p : Nat) (acc s : List UInt8) (q : Nat), L.length + 1 - p ≤ n → recGo L b p acc = some (s, q) → p + 7 ≤ q ∧ q ≤ L.length := by
  induction n with
  | zero =>
    intro b p acc s q hn h
    have hp : ¬ p ≤ L.length := by omega
    rw [recGo, dif_neg hp] at h; cases h
  | succ n ih =>
    intro b p acc s q hn h
    by_cases hp : p ≤ L.length
    · match hpr : pread L p with
      | none => rw [rec_none hpr] at h; cases h
      | some (k, T, q') =>
        have hbd := pread_bd hp hpr
        rw [rec_some hp hpr] at h
        split at h
        · split at h
          · injection h with h; injection h with _ h; omega
          · have := ih true q' _ s q (by omega) h; omega
        · cases h
    · rw [recGo, dif_neg hp] at h; cases h
theorem rread_bd {L : List UInt8} {p q : Nat} {s : List UInt8} (h : rread L p = some (s, q)) : p + 7 ≤ q ∧ q ≤ L.length := rec_bd L _ _ _ _ _ _ (Nat.le_refl _) h
/-- All records from a place on, each with the place behind it. -/
def recs (L : List UInt8) (p : Nat) : List (List UInt8 × Nat) :=
  match h : rread L p with
  | none => []
  | some (s, q) => (s, q) :: recs L q
termination_by L.length + 1 - p
decreasing_by
  have := rread_bd h
  omega
theorem recs_none {L : List UInt8} {p : Nat} (h : rread L p = none) : recs L p = [] := by
  rw [recs]; split
  · rfl
  · rename_i h'; rw [h] at h'; cases h'
theorem recs_some {L : List UInt8} {p q : Nat} {s : List UInt8} (h : rread L p = some (s, q)) : recs L p = (s, q) :: recs L q := by
  rw [recs]; split
  · rename_i h'; rw [h] at h'; cases h'
  · rename_i s' q' h'
    rw [h] at h'
    simp only [Option.some.injEq, Prod.mk.injEq] at h'
    obtain ⟨rfl, rfl⟩ := h'
    rfl
abbrev RecX := List UInt8 × Nat
abbrev encR (x : RecX) : Array Value := #[.string (bs x.1), .int .i64 x.2]
/-- What a round that goes on keeps: the log's box. -/
def KeepB (Bn : Nat) (W W' : World) : Prop := W'.heap[Bn]? = W.heap[Bn]?
theorem keepB_t {Bn : Nat} {A B C : World} (h : KeepB Bn A B) (k : KeepB Bn B C) : KeepB Bn A C := Eq.trans k h
theorem keepB_b {Bn n₀ : Nat} (hn : Bn < n₀) (W : World) (l : Nat) (o o' : Obj) (hl : n₀ ≤ l) (_ : W.heap[l]? = some o) (_ : o.isCells = false) (_ : o.isWalk = false) : KeepB Bn W (W.putObj l o') :=
  World.putObj_heap_other (by omega)
def leftMu (L : List UInt8) (t b : Value) : Nat :=
  match b with
  | .bool true => L.length + 2 - (intOf t).toNat
  | _ => 0
theorem recordAt_0 (L : List UInt8) (hL : L.length ≤ 1000000) (X : Option (List UInt8 × Nat)) (hX : rread L 0 = X) (w : World) :
    Calls Tryz.prog 57 #[.string (bs L), .int .i64 0] w fun e w' => e = .returned (rval X) ∧ Below w.heap.size w w' := by
  subst hX; exact recordAt_any L 0 hL (by omega) w
theorem recordAt_q (L : List UInt8) (q : Nat) (hL : L.length ≤ 1000000) (hq : q ≤ L.length) (X : Option (List UInt8 × Nat)) (hX : rread L q = X) (w : World) :
    Calls Tryz.prog 57 #[.string (bs L), .int .i64 q] w fun e w' => e = .returned (rval X) ∧ Below w.heap.size w w' := by
  subst hX; exact recordAt_any L q hL hq w
theorem rval_form (X : Option RecX) : ∃ r t b, rval X = .tuple #[r, t, b] := by
  cases X with
  | none => exact ⟨_, _, _, rfl⟩
  | some x => exact ⟨_, _, _, rfl⟩
theorem recordAt_r (L : List UInt8) (q : Nat) {y : Int} (hy : y = q) (hL : L.length ≤ 1000000) (hq : q ≤ L.length) (r t b : Value) (h : rval (rread L q) = .tuple #[r, t, b]) (w : World) :
    Calls Tryz.prog 57 #[.string (bs L), .int .i64 y] w fun e w' => e = .returned (.tuple #[r, t, b]) ∧ Below w.heap.size w w' := by
  subst hy
  have := recordAt_any L q hL hq w
  rw [h] at this
  exact this
def RvJ (L : List UInt8) (Bn : Nat) (J : List RecX → World → Prop) (r t b : Value) (wr : World) : Prop :=
  ∃ (pre : List RecX) (p : Nat), p ≤ L.length ∧ rval (rread L p) = .tuple #[r, t, b] ∧ recs L 0 = pre ++ recs L p ∧ J pre wr ∧ wr.heap[Bn]? = some (.cells #[.string (bs L)] 9 (0, 0))
theorem leftMu_next {L : List UInt8} {q : Nat} {r t b : Value} (hq : q ≤ L.length) (h : rval (rread L q) = .tuple #[r, t, b]) : leftMu L t b < L.length + 2 - q := by
  match hX : rread L q with
  | none =>
    rw [hX] at h
    simp [rval] at h
    obtain ⟨_, rfl, rfl⟩ := h
    simp [leftMu]; omega
  | some (s, q') =>
    rw [hX] at h
    have := rread_bd hX
    simp [rval] at h
    obtain ⟨_, rfl, rfl⟩ := h
    simp [leftMu, intOf]; omega
set_option maxHeartbeats 2000000 in
theorem recs_stops (n : Nat) (hn : 1 ≤ n) (Bn : Nat) (L : List UInt8) (hL : L.length ≤ 1000000) (w : World) (hBn : w.heap[Bn]? = some (.cells #[.string (bs L)] 9 (0, 0))) :
    SeqStopsK Fence.wide n Tryz.prog 56 #[.pointer (some ⟨Bn, 0, none⟩)] encR (KeepB Bn) (fun xs => xs = recs L 0) (fun pre => pre <+: recs L 0) (recs L 0).length w := fun l J Jx W hW hJ hJx hY h0 => by
  have hlt : Bn < w.heap.size := (Array.getElem?_eq_some_iff.1 hBn).1
  have hB1 : W.heap[Bn]? = some (.cells #[.string (bs L)] 9 (0, 0)) := (hW.block Bn hlt).trans hBn
  have hltW : Bn < W.heap.size := (Array.getElem?_eq_some_iff.1 hB1).1
  have hc := cell_in hB1 0 (.string (bs L)) rfl
  refine callsIn_of_wp Tryz.func56 rfl trivial ?_ rfl
  simp only [Tryz.ntmps56, List.size_toArray, List.length_cons, List.length_nil, Nat.reduceAdd, Nat.reduceSub, Array.replicate_succ, Array.replicate_zero, List.push_toArray, List.append_toArray, List.nil_append, List.cons_append]
  obtain ⟨r0, t0, b0, h00⟩ := rval_form (rread L 0)
  have H00 := Lib.hid h00
  clear h00
  gi_wp2_with (first | (refine ⟨trivial, ?_⟩; gi_at_call 57; refine (callsIn_wide.2 (recordAt_r L 0 rfl hL (by omega) r0 t0 b0 H00.out _)).mono ?_; rintro e w1 ⟨rfl, hw1⟩))
  gi_loopw [3, 4, 5] (RvJ L Bn J) (fun _ t b _ => leftMu L t b)
  case atStart => exact ⟨[], 0, by omega, H00.out, rfl, hJ _ _ _ none h0 (grown_below hw1 none) (fun r e => by cases e), (hw1.block Bn hltW).trans hB1⟩
  case round =>
    obtain ⟨pre, p, hp, hrv, hrecs, hJs, hbox⟩ := hrel
    match hX : rread L p with
    | none =>
      rw [hX] at hrv
      simp [rval] at hrv
      obtain ⟨rfl, rfl, rfl⟩ := hrv
      gi_wp2
      refine ⟨fun _ h => (by cases h), ?_⟩
      gi_wp2
      go_end0
      exact ⟨⟨_, rfl⟩, .inl ⟨pre, by rw [hrecs, recs_none hX, List.append_nil], hJs⟩⟩
    | some (s, q) =>
      have hbd := rread_bd hX
      rw [hX] at hrv
      simp [rval] at hrv
      obtain ⟨rfl, rfl, rfl⟩ := hrv
      have hrec2 := recs_some hX
      obtain ⟨fn, tmps, assign, body, hy, hR⟩ := hY pre (s, q) wr hJs (by rw [hrecs, hrec2]; simp)
      dsimp only [encR] at hy
      gi_wp2
      refine hR.mono ?_
      rintro e W3 (⟨rfl, hJ3, hk3⟩ | ⟨rfl, hJx3⟩)
      · have hbox3 : W3.heap[Bn]? = some (.cells #[.string (bs L)] 9 (0, 0)) := Eq.trans hk3 hbox
        have hc3 := cell_in hbox3 0 (.string (bs L)) rfl
        obtain ⟨r1, t1, b1, h11⟩ := rval_form (rread L q)
        have H11 := Lib.hid h11
        clear h11
        gi_wp2_with (first | (refine ⟨trivial, ?_⟩; gi_at_call 57; refine (callsIn_wide.2 (recordAt_r L q rfl hL hbd.2 r1 t1 b1 H11.out _)).mono ?_; rintro e w4 ⟨rfl, hw4⟩))
        go_roundw
        case rel => exact ⟨pre ++ [(s, q)], q, hbd.2, H11.out, by rw [hrecs, hrec2]; simp, hJ _ _ _ none hJ3 (grown_below hw4 none) (fun r e => by cases e), (hw4.block Bn (Array.getElem?_eq_some_iff.1 hbox3).1).trans hbox3⟩
        case measure => exact leftMu_next hbd.2 H11.out
      · gi_wp2
        go_end0
        exact ⟨⟨_, rfl⟩, .inr ⟨pre ++ [(s, q)], ⟨recs L q, by rw [hrecs, hrec2]; simp⟩, hJx3⟩⟩
theorem records_any (L : List UInt8) (w : World) :
    Calls Tryz.prog 30 #[.string (bs L)] w fun e w' => e = .returned (.func (.func 56) #[] #[.pointer (some ⟨w.heap.size, 0, none⟩)]) ∧ w' = w.alloc (.cells #[.string (bs L)] 9) := by
  go_enter Tryz.func30, Tryz.ntmps30
  go_wp2
  go_ret
  exact ⟨rfl, rfl⟩
def endOf (xs : List RecX) : Nat := ((xs.getLast?).map (·.2)).getD 0
theorem endOf_snoc (xs : List RecX) (x : RecX) : endOf (xs ++ [x]) = x.2 := by simp [endOf]
set_option maxRecDepth 100000 in
set_option maxHeartbeats 2000000 in
theorem whole_in (n : Nat) (hn : 3 ≤ n) (L : List UInt8) (hL : L.length ≤ 1000000) (w : World) :
    CallsIn Fence.wide n Tryz.prog 93 #[.string (bs L)] w fun e W' => e = .returned (.int .i64 (endOf (recs L 0))) ∧ Below w.heap.size w W' := by
  have h1 : 1 ≤ n := by omega
  refine callsIn_of_wp_marks Tryz.func93 rfl trivial ?_ rfl
  simp only [Tryz.ntmps93, List.size_toArray, List.length_cons, List.length_nil, Nat.reduceAdd, Nat.reduceSub, Array.replicate_succ, Array.replicate_zero, List.push_toArray, List.append_toArray, List.nil_append, List.cons_append]
  gi_wp2_with (first | (refine ⟨trivial, ?_⟩; gi_at_call 30; refine (callsIn_wide.2 (records_any L _)).mono ?_; rintro e w1 ⟨rfl, rfl⟩))
  have hs : ((w.alloc (.cells #[.int .i64 0] 3)).alloc (.cells #[.string (bs L)] 9)).heap[w.heap.size]? = some (.cells #[.int .i64 0] 3) := (Below.heap_alloc _ _ _ (by simp)).trans (heap_alloc_last w _)
  have hbx : ((w.alloc (.cells #[.int .i64 0] 3)).alloc (.cells #[.string (bs L)] 9)).heap[w.heap.size + 1]? = some (.cells #[.string (bs L)] 9) := by
    have := heap_alloc_last (w.alloc (.cells #[.int .i64 0] 3)) (.cells #[.string (bs L)] 9)
    rwa [World.size_alloc] at this
  have hB0 : Below w.heap.size w ((w.alloc (.cells #[.int .i64 0] 3)).alloc (.cells #[.string (bs L)] 9)) := ((Below.refl _ w).alloc (Nat.le_refl _) _).alloc (by simp) _
  refine wpIn_rangeFunc_ownF rfl h1 (gf := 56) (lb := #[.pointer (some ⟨w.heap.size + 1, 0, none⟩)]) rfl trivial (enters_of Tryz.func56 (by kernel_rfl) rfl)
    (recs_stops (n - 1) (by omega) (w.heap.size + 1) L hL _ hbx) keepB_t (keepB_b (by simp)) (Below.refl _ _) (fun _ => rfl)
    (fun pre W => (W.cell? ⟨w.heap.size, 0, none⟩ = some (.int .i64 (endOf pre)) ∧ W.frozen? ⟨w.heap.size, 0, none⟩ = false) ∧ Below w.heap.size w W)
    (fun _ _ _ => False)
    (OwnFrom.and (Own.from (fun s A B row hs hg hr => ⟨cell_kept hs.1 hg hr, (frozen_kept hs.1 hg hr).trans hs.2⟩) _) (ownFrom_below (Nat.le_refl _) (by simp; omega)))
    (fun _ _ _ _ _ hs _ _ => hs)
    ⟨⟨cell_in hs 0 _ rfl, free_in hs 0⟩, hB0⟩
    (fun x => { tmps := #[.string (bs L), undef, .int .i64 0, .pointer (some ⟨w.heap.size, 0, none⟩), undef, .int .i64 x.2, .string (bs L), .func (.func 56) #[] #[.pointer (some ⟨w.heap.size + 1, 0, none⟩)], .string (bs x.1), .int .i64 x.2, undef, undef], defers := [] }) ?assign ?body ?done ?stop
  case assign =>
    intro l x W K hK
    gi_wp2
    exact hK
  case body =>
    rintro l pre x W ⟨⟨hc, hf⟩, hB⟩ _
    gi_wp2
    exact ⟨KeepsOthers.setCell _ _ _, Below.heap_setCell _ _ _ _ (by simp), ⟨by rw [endOf_snoc]; exact World.cell?_setCell_same' _ _ _ (by rw [hc]; rfl), by rw [World.frozen?_setCell]; exact hf⟩, hB.setCell (p := ⟨w.heap.size, 0, none⟩) (Nat.le_refl _) _⟩
  case done =>
    rintro D ys W hD rfl ⟨⟨hc, _⟩, hB⟩ hK
    gi_wp2
    refine ⟨by simp, .inl ⟨_, _, rfl, run_takeDeferred hK, ?_⟩⟩
    exact ⟨_, results_tmp rfl _ _ _, rfl, hB.trans (belowK_b (w := w) (Nat.le_refl _) W D _ _ (by simp at hD; omega) hK rfl rfl)⟩
  case stop =>
    rintro D c pre W _ _ h _
    exact h.elim
theorem whole_any (L : List UInt8) (hL : L.length ≤ 1000000) (w : World) :
    Calls Tryz.prog 93 #[.string (bs L)] w fun e W' => e = .returned (.int .i64 (endOf (recs L 0))) ∧ Below w.heap.size w W' :=
  callsIn_wide.1 (whole_in 3 (by omega) L hL w)
end Go.Proofs.YtdkgieaanpfhcaaGreatDoor
