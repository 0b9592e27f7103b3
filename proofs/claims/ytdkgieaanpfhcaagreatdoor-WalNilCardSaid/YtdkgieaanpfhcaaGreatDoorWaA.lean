/-
  The records of a log as what an iterator gives. Conditions: as each theorem states.
-/
import Derived.Test.YtdkgieaanpfhcaaGreatDoorFrH
import Derived.Test.YtdkgieaanpfhcaaGreatDoorRfX
namespace Go.Proofs.YtdkgieaanpfhcaaGreatDoor
open Go.RowKit Go.Shelf
open Vi
open Go.Proofs.YtdkgieaanpfhcaaGreatDoor.Rf

attribute [local go_sem] Oper.semAt_some
/-- what a round keeps: the log's box -/
def KeepS (Bn : Nat) (L : List UInt8) (A B : World) : Prop := A.heap[Bn]? = some (.cells #[.string (bs L)] 9 (0, 0)) → B.heap[Bn]? = some (.cells #[.string (bs L)] 9 (0, 0))
theorem KeepS.t {Bn : Nat} {L : List UInt8} {A B C : World} (h : KeepS Bn L A B) (k : KeepS Bn L B C) : KeepS Bn L A C := fun x => k (h x)
theorem keepS_b {Bn : Nat} {L : List UInt8} (W : World) (l : Nat) (o o' : Obj) (h : W.heap[l]? = some o) (hc : o.isCells = false) : KeepS Bn L W (W.putObj l o') := fun hx =>
  (World.putObj_heap_other (fun e => by subst e; rw [hx] at h; injection h with h; subst h; cases hc)).trans hx
set_option maxHeartbeats 2000000 in
theorem recs_seqt (n : Nat) (hn : 1 ≤ n) (Bn : Nat) (L : List UInt8) (hL : L.length ≤ 1000000) (w : World) (hBn : w.heap[Bn]? = some (.cells #[.string (bs L)] 9 (0, 0))) :
    SeqT Fence.wide n Tryz.prog 56 #[.pointer (some ⟨Bn, 0, none⟩)] encR (fun _ _ => False) (KeepS Bn L) (recs L 0) w := fun l J Jx W hW hJ hJx _ hY h0 => by
  have hlt : Bn < w.heap.size := (Array.getElem?_eq_some_iff.1 hBn).1
  have hB1 : W.heap[Bn]? = some (.cells #[.string (bs L)] 9 (0, 0)) := (hW.block Bn hlt).trans hBn
  have hltW : Bn < W.heap.size := (Array.getElem?_eq_some_iff.1 hB1).1
  have hc := cell_in hB1 0 (.string (bs L)) rfl
  refine callsIn_of_wp Tryz.func56 rfl trivial ?_ rfl
  simp only [Tryz.ntmps56, List.size_toArray, List.length_cons, List.length_nil, Nat.reduceAdd, Nat.reduceSub, Array.replicate_succ, Array.replicate_zero, List.push_toArray, List.append_toArray, List.nil_append, List.cons_append]
  obtain ⟨r0, t0, b0, h00⟩ := rval_form (rread L 0)
  have H00 := Lib.hid h00
  clear h00
  gi_wp2_with (first | (refine ⟨trivial, ?_⟩; gi_at_call 57; refine (callsIn_wide.2 (recordAt_r L 0 rfl hL (by omega) r0 t0 b0 H00.out _)).mono ?_; rintro e w1 ⟨rfl, hw1⟩))
  gi_loopw [3, 4, 5] (RvJ L Bn J) (fun _ t b _ => leftMu L t b)
  case atStart => exact ⟨[], 0, by omega, H00.out, rfl, hJ _ _ _ none h0 (grown_below hw1 none) (fun r e => by cases e), (hw1.block Bn hltW).trans hB1⟩
  case round =>
    obtain ⟨pre, p, hp, hrv, hrecs, hJs, hbox⟩ := hrel
    match hX : rread L p with
    | none =>
      rw [hX] at hrv
      simp [rval] at hrv
      obtain ⟨rfl, rfl, rfl⟩ := hrv
      gi_wp2
      refine ⟨fun _ h => (by cases h), ?_⟩
      gi_wp2
      go_end0
      exact ⟨⟨_, rfl⟩, .inl (by rw [hrecs, recs_none hX, List.append_nil]; exact hJs)⟩
    | some (s, q) =>
      have hbd := rread_bd hX
      rw [hX] at hrv
      simp [rval] at hrv
      obtain ⟨rfl, rfl, rfl⟩ := hrv
      have hrec2 := recs_some hX
      obtain ⟨fn, tmps, assign, body, hy, hR⟩ := hY pre (s, q) wr hJs (by rw [hrecs, hrec2]; simp)
      dsimp only [encR] at hy
      gi_wp2
      refine hR.mono ?_
      rintro e W3 (⟨rfl, hJ3, hk3, _⟩ | ⟨rfl, hJx3, _⟩)
      · have hbox3 : W3.heap[Bn]? = some (.cells #[.string (bs L)] 9 (0, 0)) := hk3 hbox
        have hc3 := cell_in hbox3 0 (.string (bs L)) rfl
        obtain ⟨r1, t1, b1, h11⟩ := rval_form (rread L q)
        have H11 := Lib.hid h11
        clear h11
        gi_wp2_with (first | (refine ⟨trivial, ?_⟩; gi_at_call 57; refine (callsIn_wide.2 (recordAt_r L q rfl hL hbd.2 r1 t1 b1 H11.out _)).mono ?_; rintro e w4 ⟨rfl, hw4⟩))
        go_roundw
        case rel => exact ⟨pre ++ [(s, q)], q, hbd.2, H11.out, by rw [hrecs, hrec2]; simp, hJ _ _ _ none hJ3 (grown_below hw4 none) (fun r e => by cases e), (hw4.block Bn (Array.getElem?_eq_some_iff.1 hbox3).1).trans hbox3⟩
        case measure => exact leftMu_next hbd.2 H11.out
      · gi_wp2
        go_end0
        exact ⟨⟨_, rfl⟩, .inr ⟨pre ++ [(s, q)], ⟨recs L q, by rw [hrecs, hrec2]; simp⟩, hJx3⟩⟩
end Go.Proofs.YtdkgieaanpfhcaaGreatDoor
