/-
  The Go text of Rename, of Append where it fails, and of what sets and tells of a disk, walked. Conditions: as each theorem states.
-/
import Derived.Test.YtpeobjnamflibaaDkP
namespace Go.Proofs.Ytpeobjnamflibaa.Dk
open Go.RowKit Go.Maps

section
variable {w : World} {d m : Nat} {L : List Ent} {room steps fuse fault : Int} {down : Bool}
theorem fuse_any (h : DiskAt w d m L room steps fuse fault down) (n : Int) :
    Calls Try.prog 22 #[.pointer (some ⟨d, 0, none⟩), .int .i64 n] w fun r w' => r = .returned (.tuple #[]) ∧ DiskAt w' d m L room steps (max n (-1)) fault down ∧ Moves w (feet d m L) w' (feet d m L) := by
  have c3 := disk3 h.disk
  have f3 := free_in h.disk 3
  have H := Lib.hid h
  clear h
  go_enter Try.func22, Try.ntmps22
  go_wp2
  go_end0
  exact ⟨rfl, H.out.step (heap_set H.out.disk 3 _) (grown_set _ _ _ _)⟩
theorem fault_any (h : DiskAt w d m L room steps fuse fault down) (n : Int) :
    Calls Try.prog 23 #[.pointer (some ⟨d, 0, none⟩), .int .i64 n] w fun r w' => r = .returned (.tuple #[]) ∧ DiskAt w' d m L room steps fuse (max n (-1)) down ∧ Moves w (feet d m L) w' (feet d m L) := by
  have c4 := disk4 h.disk
  have f4 := free_in h.disk 4
  have H := Lib.hid h
  clear h
  go_enter Try.func23, Try.ntmps23
  go_wp2
  go_end0
  exact ⟨rfl, H.out.step (heap_set H.out.disk 4 _) (grown_set _ _ _ _)⟩
theorem room_any (h : DiskAt w d m L room steps fuse fault down) (n : Int) :
    Calls Try.prog 24 #[.pointer (some ⟨d, 0, none⟩), .int .i64 n] w fun r w' => r = .returned (.tuple #[]) ∧ DiskAt w' d m L (min (max n 0) 16777216) steps fuse fault down ∧ Moves w (feet d m L) w' (feet d m L) := by
  have c1 := disk1 h.disk
  have f1 := free_in h.disk 1
  have H := Lib.hid h
  clear h
  go_enter Try.func24, Try.ntmps24
  go_wp2
  go_end0
  exact ⟨rfl, H.out.step (heap_set H.out.disk 1 _) (grown_set _ _ _ _)⟩
theorem steps_any (h : DiskAt w d m L room steps fuse fault down) : Calls Try.prog 32 #[.pointer (some ⟨d, 0, none⟩)] w fun r w' => r = .returned (.int .i64 steps) ∧ w = w' := by
  have c2 := disk2 h.disk
  clear h
  go_enter Try.func32, Try.ntmps32
  go_wp2
  go_ret
  exact ⟨rfl, rfl⟩
theorem down_any (h : DiskAt w d m L room steps fuse fault down) : Calls Try.prog 33 #[.pointer (some ⟨d, 0, none⟩)] w fun r w' => r = .returned (.bool down) ∧ w = w' := by
  have c5 := disk5 h.disk
  clear h
  go_enter Try.func33, Try.ntmps33
  go_wp2
  go_ret
  exact ⟨rfl, rfl⟩
set_option maxRecDepth 100000 in
theorem append_full (h : DiskAt w d m L room steps fuse fault false) (s t : ByteArray) (hs : Hid (s.size ≤ maxLen)) (ht : t.size ≤ 9223372036854775807) {e : Ent} (he : e ∈ L) (hne : e.name = s.data.toList) (hr0 : 0 ≤ room) (hr1 : room ≤ 16777216) (hfull : room < ((usedL L : Nat) : Int) + (t.size : Int)) :
    Calls Try.prog 11 #[.pointer (some ⟨d, 0, none⟩), .string s, .string t] w fun r w' => r = .returned (.int .i64 14) ∧ DiskAt w' d m L room steps fuse fault false ∧ Moves w (feet d m L) w' (feet d m L) := by
  obtain ⟨D, ho, hM⟩ := h.map
  have hl := look_hit ho hM hs.out he hne
  have c0 := disk0 h.disk
  have c1 := disk1 h.disk
  have H := Lib.hid h
  clear h ho hM he hne
  go_enter Try.func11, Try.ntmps11
  go_wp2_with (first
    | (go_at_call 36; with_reducible refine (powered_any H.out.disk).mono ?_; rintro r w1 ⟨rfl, rfl⟩))
  have hu := H.out.vol
  have hdl : d < w.heap.size := H.out.lt d (by simp [feet])
  obtain ⟨U, hU⟩ : ∃ U, usedL L = U := ⟨_, rfl⟩
  have hUsed : ∀ {W : World}, DiskAt W d m L room steps fuse fault false → Calls Try.prog 30 #[.pointer (some ⟨d, 0, none⟩)] W fun r w' => r = .returned (.int .i64 ((U : Nat) : Int)) ∧ Below W.heap.size W w' := by
    intro W hW; rw [← hU]; exact used_any hW
  rw [hU] at hu hfull
  have HUs := Lib.hid (And.intro hU @hUsed)
  clear hU hUsed
  have hw1 : IntKind.i64.wrap (room - (U : Int)) = room - (U : Int) := IntWalk.i64_in _ (by omega)
  go_region_held3 (fun wx => wx.cell? ⟨d, 1, none⟩ = some (.int .i64 room)) (first | go_keep | (rw [hb2.cell (p := ⟨d, 1, none⟩) (by simp; omega)]; go_keep))
    (first
      | (go_at_call 30; refine (HUs.out.2 H.out.drew).mono ?_; rintro r w2 ⟨rfl, hb2⟩))
  clear hw1
  have hle : room - (U : Int) < (t.size : Int) := by omega
  go_wp2
  go_ret
  have hb := (Below.refl w.heap.size w).drew.trans hb2
  exact ⟨rfl, H.out.below hb, ⟨Only.of_below hb, fun _ hk => Or.inl hk⟩⟩
set_option maxRecDepth 100000 in
theorem append_fails (h : DiskAt w d m L room steps fuse fault false) (s t : ByteArray) (hs : Hid (s.size ≤ maxLen)) (ht : t.size ≤ 9223372036854775807) {e : Ent} (he : e ∈ L) (hne : e.name = s.data.toList) (hr0 : room ≤ 16777216) (hroom : ((usedL L : Nat) : Int) + (t.size : Int) ≤ room)
    {code fault' : Int} {down' : Bool} (hf : StepFails room steps fuse fault code fault' down') :
    Calls Try.prog 11 #[.pointer (some ⟨d, 0, none⟩), .string s, .string t] w fun r w' => r = .returned (.int .i64 code) ∧ DiskAt w' d m L room steps fuse fault' down' ∧ Moves w (feet d m L) w' (feet d m L) := by
  have hcz := fails_code hf
  have HF := Lib.hid hf
  obtain ⟨D, ho, hM⟩ := h.map
  have hl := look_hit ho hM hs.out he hne
  have c0 := disk0 h.disk
  have c1 := disk1 h.disk
  have H := Lib.hid h
  clear h ho hM he hne hf
  go_enter Try.func11, Try.ntmps11
  go_wp2_with (first
    | (go_at_call 36; with_reducible refine (powered_any H.out.disk).mono ?_; rintro r w1 ⟨rfl, rfl⟩))
  have hu := H.out.vol
  have hdl : d < w.heap.size := H.out.lt d (by simp [feet])
  obtain ⟨U, hU⟩ : ∃ U, usedL L = U := ⟨_, rfl⟩
  have hUsed : ∀ {W : World}, DiskAt W d m L room steps fuse fault false → Calls Try.prog 30 #[.pointer (some ⟨d, 0, none⟩)] W fun r w' => r = .returned (.int .i64 ((U : Nat) : Int)) ∧ Below W.heap.size W w' := by
    intro W hW; rw [← hU]; exact used_any hW
  rw [hU] at hu hroom
  have HUs := Lib.hid (And.intro hU @hUsed)
  clear hU hUsed
  have hw1 : IntKind.i64.wrap (room - (U : Int)) = room - (U : Int) := IntWalk.i64_in _ (by omega)
  go_region_held3 (fun wx => wx.cell? ⟨d, 1, none⟩ = some (.int .i64 room)) (first | go_keep | (rw [hb2.cell (p := ⟨d, 1, none⟩) (by simp; omega)]; go_keep))
    (first
      | (go_at_call 30; refine (HUs.out.2 H.out.drew).mono ?_; rintro r w2 ⟨rfl, hb2⟩))
  clear hw1
  have hle : ¬ (room - (U : Int) < (t.size : Int)) := by omega
  have HD2 := Lib.hid (H.out.below ((Below.refl _ w).drew.trans hb2))
  go_wp2_with (first
    | (go_at_call 38; with_reducible refine (step_fails HF.out HD2.out.disk).mono ?_; rintro r w3 ⟨rfl, hd3, hg3⟩))
  go_ret
  have h3 := HD2.out.step hd3 hg3
  exact ⟨rfl, h3.1, Moves.trans ⟨Only.of_below ((Below.refl _ w).drew.trans hb2), fun _ hk => Or.inl hk⟩ h3.2⟩
end
/-- a name put in the place of one that may be there -/
theorem mapIs_over {D : DataW Unit} {L : List Ent} (hT : Maps.Tidy D) (hM : MapIs D L) (hp : L.Pairwise (fun a b => a.name ≠ b.name)) (e0 : Ent) :
    MapIs (D.put (.string e0.name) (.lit (.int .i64 (e0.blk : Int)))) (L.filter (fun y => decide (y.name ≠ e0.name)) ++ [e0]) := by
  have hmem : ∀ x, x ∈ L.filter (fun y => decide (y.name ≠ e0.name)) ++ [e0] ↔ (x ∈ L ∧ x.name ≠ e0.name) ∨ x = e0 := fun x => by simp
  refine ⟨fun x => ?_, fun e he => ?_, ?_⟩
  · by_cases hx : x = e0.name
    · subst hx
      rw [Maps.has_put_same hT.isMap (isKey _)]
      exact ⟨fun _ => ⟨e0, (hmem _).2 (Or.inr rfl), rfl⟩, fun _ => rfl⟩
    · rw [Maps.has_put_other (lit_ne hx), hM.has x]
      constructor
      · rintro ⟨e, he, h⟩; exact ⟨e, (hmem _).2 (Or.inl ⟨he, by rw [h]; exact hx⟩), h⟩
      · rintro ⟨e, he, h⟩
        rcases (hmem e).1 he with he | rfl
        · exact ⟨e, he.1, h⟩
        · exact absurd h.symm hx
  · rcases (hmem e).1 he with he | rfl
    · rw [Maps.atKey_put_other (lit_ne he.2)]; exact hM.here e he.1
    · exact Maps.atKey_put_same hT.isMap (isKey _) _ _
  · rw [Maps.size_put hT, hM.size, List.length_append, List.length_singleton]
    have key : ∀ (L : List Ent), L.Pairwise (fun a b => a.name ≠ b.name) → (L.filter (fun y => decide (y.name ≠ e0.name))).length + (if (∃ e ∈ L, e.name = e0.name) then 1 else 0) = L.length := by
      intro L hp
      induction L with
      | nil => simp
      | cons a L ih =>
        obtain ⟨h1, h2⟩ := List.pairwise_cons.1 hp
        have ih := ih h2
        rw [List.filter_cons]
        by_cases ha : a.name = e0.name
        · have hno : ¬ ∃ e ∈ L, e.name = e0.name := by
            rintro ⟨e, he, hen⟩
            exact h1 e he (ha.trans hen.symm)
          rw [if_neg hno] at ih
          rw [if_neg (by simp [ha]), if_pos ⟨a, by simp, ha⟩]
          simp at ih ⊢
          omega
        · have hiff : (∃ e ∈ a :: L, e.name = e0.name) ↔ ∃ e ∈ L, e.name = e0.name := by simp [ha]
          rw [if_pos (by simp [ha])]
          simp only [hiff, List.length_cons]
          omega
    have hk := key L hp
    by_cases hb : ∃ e ∈ L, e.name = e0.name
    · rw [if_pos ((hM.has _).2 hb)]
      rw [if_pos hb] at hk
      omega
    · have : ¬ Maps.has D (.string e0.name) = true := fun h => hb ((hM.has _).1 h)
      rw [if_neg this]
      rw [if_neg hb] at hk
      omega
end Go.Proofs.Ytpeobjnamflibaa.Dk
