/-
  The Go text of Read, Loose and Sync of a disk, walked. Conditions: as each theorem states.
-/
import Derived.Test.YtpeobjnamflibaaDkG
import Derived.Laws.IdiomStrings
import Derived.Deep.Draws
namespace Go.Proofs.Ytpeobjnamflibaa.Dk
open Go.RowKit Go.Maps

theorem run_read {w : World} {e : Ent} (h : FileAt w e) : (convert 60 9 e.v).run Try.prog w = .ok (.string ⟨e.bytes.toArray⟩) w := by
  rcases h.row.2 with ⟨h1, h2⟩ | ⟨g, cap, cur, h1, _, hg, hn, _, hcs, ht⟩
  · have : e.bytes = [] := List.eq_nil_of_length_eq_zero h2
    rw [h1, this, run_convert_bytes_string w 60 9 5 _ _ _ Try.underlying60 Try.underlying5 Try.underlying9]
    simp [Conv.bytesToString]
    rfl
  · rw [h1]
    refine run_convert_bytes_back (P := Try.prog) w 60 9 5 ⟨g, 0, none⟩ cap e.bytes Try.underlying60 Try.underlying5 Try.underlying9 (fun j hj => ?_)
    have hc := h.row.cells (g := g) (by rw [h1]; rfl) j (u8v e.bytes[j]) (by simp [hj])
    exact hc
theorem read_ok {w : World} {d m : Nat} {L : List Ent} {room steps fuse fault : Int} (h : DiskAt w d m L room steps fuse fault false) (s : ByteArray) (hs : Hid (s.size ≤ maxLen)) {e : Ent} (he : e ∈ L) (hne : e.name = s.data.toList) :
    Calls Try.prog 12 #[.pointer (some ⟨d, 0, none⟩), .string s] w fun r w' => r = .returned (.tuple #[.string ⟨e.bytes.toArray⟩, .int .i64 0]) ∧ w = w' := by
  obtain ⟨D, ho, hM⟩ := h.map
  have hl := look_hit ho hM hs.out he hne
  have c0 := disk0 h.disk
  have hF := h.files e he
  have hcv := run_read hF
  have f0 := file0 hF
  obtain ⟨va, vc, hv⟩ := file_v hF
  have H := Lib.hid h
  clear h ho hM he hne hF
  rw [hv] at f0 hcv
  clear hv
  go_enter Try.func12, Try.ntmps12
  go_wp2_with (first
    | (go_at_call 36; with_reducible refine (powered_any H.out.disk).mono ?_; rintro e w1 ⟨rfl, rfl⟩))
  go_ret2
  exact ⟨rfl, rfl⟩
theorem read_nil (s : ByteArray) (w : World) : Calls Try.prog 12 #[.pointer none, .string s] w fun r w' => r = .returned (.tuple #[.string ⟨#[]⟩, .int .i64 1]) ∧ w = w' := by
  go_enter Try.func12, Try.ntmps12
  go_wp2_with (first
    | (go_at_call 36; with_reducible refine (powered_nil _).mono ?_; rintro e w1 ⟨rfl, rfl⟩))
  go_ret2
  exact ⟨rfl, rfl⟩
theorem floose_any {w : World} {e : Ent} (h : FileAt w e) (hb : e.bytes.length ≤ 16777216) :
    Calls Try.prog 40 #[.pointer (some ⟨e.blk, 0, none⟩)] w fun r w' => r = .returned (.int .i64 ((e.bytes.length - e.sure : Nat) : Int)) ∧ ∃ n, w' = w.drewN n := by
  have f0 := file0 h
  have f1 := file1 h
  have hsu := h.sure
  obtain ⟨va, vc, hv⟩ := file_v h
  rw [hv] at f0
  clear h hv
  have hw : IntKind.i64.wrap ((e.bytes.length : Int) - (e.sure : Int)) = (e.bytes.length : Int) - (e.sure : Int) := IntWalk.i64_in _ (by omega)
  go_enter Try.func40, Try.ntmps40
  go_wp2
  go_quiet (fail)
  clear hw
  go_wp2
  go_ret
  refine ⟨congrArg (fun n => Ending.returned (.int .i64 n)) (?_ : (e.bytes.length : Int) - (e.sure : Int) = _), _, rfl⟩
  omega
theorem loose_nil (s : ByteArray) (w : World) : Calls Try.prog 34 #[.pointer none, .string s] w fun r w' => r = .returned (.int .i64 0) ∧ w = w' := by
  go_enter Try.func34, Try.ntmps34
  go_wp2
  go_ret
  exact ⟨rfl, rfl⟩
theorem usedL_mem {L : List Ent} {e : Ent} (h : e ∈ L) : e.bytes.length ≤ usedL L := by
  obtain ⟨A, B, rfl⟩ := List.append_of_mem h
  rw [usedL_mid]; omega
theorem loose_ok {w : World} {d m : Nat} {L : List Ent} {room steps fuse fault : Int} {down : Bool} (h : DiskAt w d m L room steps fuse fault down) (s : ByteArray) (hs : Hid (s.size ≤ maxLen)) {e : Ent} (he : e ∈ L) (hne : e.name = s.data.toList) :
    Calls Try.prog 34 #[.pointer (some ⟨d, 0, none⟩), .string s] w fun r w' => r = .returned (.int .i64 ((e.bytes.length - e.sure : Nat) : Int)) ∧ ∃ n, w' = w.drewN n := by
  obtain ⟨D, ho, hM⟩ := h.map
  have hl := look_hit ho hM hs.out he hne
  have c0 := disk0 h.disk
  have hF := Lib.hid (And.intro (h.files e he) (Nat.le_trans (usedL_mem he) h.vol))
  clear h ho hM he hne
  go_enter Try.func34, Try.ntmps34
  go_wp2_with (first
    | (go_at_call 40; with_reducible refine (floose_any hF.out.1 hF.out.2).mono ?_; rintro r w1 ⟨rfl, n1, rfl⟩))
  go_ret
  exact ⟨rfl, n1, rfl⟩
set_option maxRecDepth 100000 in
theorem sync_ok {w : World} {d m : Nat} {A B : List Ent} {e : Ent} {room steps fuse fault : Int} (h : DiskAt w d m (A ++ e :: B) room steps fuse fault false) (s : ByteArray) (hs : Hid (s.size ≤ maxLen)) (hne : e.name = s.data.toList) (hcs : CanStep steps fuse fault) :
    Calls Try.prog 15 #[.pointer (some ⟨d, 0, none⟩), .string s] w fun r w' => r = .returned (.int .i64 0) ∧ DiskAt w' d m (A ++ ⟨e.name, e.bytes, e.bytes.length, e.blk, e.v⟩ :: B) room (steps + 1) (tick fuse) (tick fault) false ∧
      Moves w (feet d m (A ++ e :: B)) w' (feet d m (A ++ ⟨e.name, e.bytes, e.bytes.length, e.blk, e.v⟩ :: B)) := by
  obtain ⟨D, ho, hM⟩ := h.map
  have hl := look_hit ho hM hs.out (show e ∈ A ++ e :: B by simp) hne
  have c0 := disk0 h.disk
  obtain ⟨va, vc, hv⟩ := file_v (h.files e (by simp))
  have hlen : e.bytes.length ≤ 16777216 := Nat.le_trans (usedL_mem (by simp)) h.vol
  have H := Lib.hid h
  have HV := Lib.hid hv
  clear h ho hM hv
  go_enter Try.func15, Try.ntmps15
  go_wp2_with (first
    | (go_at_call 36; with_reducible refine (powered_any H.out.disk).mono ?_; rintro r w1 ⟨rfl, rfl⟩)
    | (go_at_call 38
       with_reducible refine (step_can hcs H.out.disk).mono ?_
       rintro r w3 ⟨rfl, hd3, hg3⟩
       have HD3 := Lib.hid (H.out.step hd3 hg3)
       have f0 := file0 (HD3.out.1.files e (by simp))
       rw [HV.out] at f0
       have f1 := file1 (HD3.out.1.files e (by simp))
       have z1 := free_in (HD3.out.1.files e (by simp)).cells 1
       clear hd3 hg3))
  go_ret
  obtain ⟨e1, e2⟩ := file_end (e' := ⟨e.name, e.bytes, e.bytes.length, e.blk, e.v⟩) HD3.out.1 (w3 := w3.setCell ⟨e.blk, 1, none⟩ (.int .i64 (e.bytes.length : Int))) (Only.of_grown (grown_set _ _ _ _) (fun k e0 => by injection e0 with e0; subst e0; simp [Ent.foot]))
    ⟨heap_set (HD3.out.1.files e (by simp)).cells 1 _, ownsRow_kept (HD3.out.1.files e (by simp)).row (fun g hgv => Below.heap_setCell w3 ⟨e.blk, 1, none⟩ _ g (fun e0 => foot_ne HD3.out.1 (by rw [hgv, e0]))), Nat.le_refl _⟩ rfl rfl (Or.inl rfl)
    (by have h1 := HD3.out.1.vol; rw [usedL_mid] at h1 ⊢; exact h1)
  exact ⟨rfl, e1, HD3.out.2.trans e2⟩
end Go.Proofs.Ytpeobjnamflibaa.Dk
