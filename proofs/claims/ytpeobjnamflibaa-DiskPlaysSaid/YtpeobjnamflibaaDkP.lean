/-
  The Go text of a disk's calls where they have an error, and of those that set and tell, walked. Conditions: as each theorem states.
-/
import Derived.Test.YtpeobjnamflibaaDkM
namespace Go.Proofs.Ytpeobjnamflibaa.Dk
open Go.RowKit Go.Maps

section
variable {w : World} {d m : Nat} {L : List Ent} {room steps fuse fault : Int} {down : Bool}
theorem create_down (h : DiskIs w d m room steps fuse fault true) (s : ByteArray) : Calls Try.prog 10 #[.pointer (some ⟨d, 0, none⟩), .string s] w fun r w' => r = .returned (.int .i64 13) ∧ w = w' := by
  have H := Lib.hid h
  clear h
  go_enter Try.func10, Try.ntmps10
  go_wp2_with (go_at_call 36; with_reducible refine (powered_any H.out).mono ?_; rintro e w1 ⟨rfl, rfl⟩)
  go_ret
  exact ⟨rfl, rfl⟩
theorem append_down (h : DiskIs w d m room steps fuse fault true) (s t : ByteArray) : Calls Try.prog 11 #[.pointer (some ⟨d, 0, none⟩), .string s, .string t] w fun r w' => r = .returned (.int .i64 13) ∧ w = w' := by
  have H := Lib.hid h
  clear h
  go_enter Try.func11, Try.ntmps11
  go_wp2_with (go_at_call 36; with_reducible refine (powered_any H.out).mono ?_; rintro e w1 ⟨rfl, rfl⟩)
  go_ret
  exact ⟨rfl, rfl⟩
theorem sync_down (h : DiskIs w d m room steps fuse fault true) (s : ByteArray) : Calls Try.prog 15 #[.pointer (some ⟨d, 0, none⟩), .string s] w fun r w' => r = .returned (.int .i64 13) ∧ w = w' := by
  have H := Lib.hid h
  clear h
  go_enter Try.func15, Try.ntmps15
  go_wp2_with (go_at_call 36; with_reducible refine (powered_any H.out).mono ?_; rintro e w1 ⟨rfl, rfl⟩)
  go_ret
  exact ⟨rfl, rfl⟩
theorem rename_down (h : DiskIs w d m room steps fuse fault true) (s t : ByteArray) : Calls Try.prog 17 #[.pointer (some ⟨d, 0, none⟩), .string s, .string t] w fun r w' => r = .returned (.int .i64 13) ∧ w = w' := by
  have H := Lib.hid h
  clear h
  go_enter Try.func17, Try.ntmps17
  go_wp2_with (go_at_call 36; with_reducible refine (powered_any H.out).mono ?_; rintro e w1 ⟨rfl, rfl⟩)
  go_ret
  exact ⟨rfl, rfl⟩
theorem delete_down (h : DiskIs w d m room steps fuse fault true) (s : ByteArray) : Calls Try.prog 19 #[.pointer (some ⟨d, 0, none⟩), .string s] w fun r w' => r = .returned (.int .i64 13) ∧ w = w' := by
  have H := Lib.hid h
  clear h
  go_enter Try.func19, Try.ntmps19
  go_wp2_with (go_at_call 36; with_reducible refine (powered_any H.out).mono ?_; rintro e w1 ⟨rfl, rfl⟩)
  go_ret
  exact ⟨rfl, rfl⟩
theorem read_down (h : DiskIs w d m room steps fuse fault true) (s : ByteArray) : Calls Try.prog 12 #[.pointer (some ⟨d, 0, none⟩), .string s] w fun r w' => r = .returned (.tuple #[.string ⟨#[]⟩, .int .i64 13]) ∧ w = w' := by
  have H := Lib.hid h
  clear h
  go_enter Try.func12, Try.ntmps12
  go_wp2_with (go_at_call 36; with_reducible refine (powered_any H.out).mono ?_; rintro e w1 ⟨rfl, rfl⟩)
  go_ret2
  exact ⟨rfl, rfl⟩
theorem append_none (h : DiskAt w d m L room steps fuse fault false) (s t : ByteArray) (hs : Hid (s.size ≤ maxLen)) (hne : ∀ e ∈ L, e.name ≠ s.data.toList) : Calls Try.prog 11 #[.pointer (some ⟨d, 0, none⟩), .string s, .string t] w fun r w' => r = .returned (.int .i64 16) ∧ w = w' := by
  obtain ⟨D, ho, hM⟩ := h.map
  have hl := look_miss ho hM hs.out hne
  have c0 := disk0 h.disk
  have H := Lib.hid h
  clear h ho hM hne
  go_enter Try.func11, Try.ntmps11
  go_wp2_with (go_at_call 36; with_reducible refine (powered_any H.out.disk).mono ?_; rintro e w1 ⟨rfl, rfl⟩)
  go_ret
  exact ⟨rfl, rfl⟩
theorem sync_none (h : DiskAt w d m L room steps fuse fault false) (s : ByteArray) (hs : Hid (s.size ≤ maxLen)) (hne : ∀ e ∈ L, e.name ≠ s.data.toList) : Calls Try.prog 15 #[.pointer (some ⟨d, 0, none⟩), .string s] w fun r w' => r = .returned (.int .i64 16) ∧ w = w' := by
  obtain ⟨D, ho, hM⟩ := h.map
  have hl := look_miss ho hM hs.out hne
  have c0 := disk0 h.disk
  have H := Lib.hid h
  clear h ho hM hne
  go_enter Try.func15, Try.ntmps15
  go_wp2_with (go_at_call 36; with_reducible refine (powered_any H.out.disk).mono ?_; rintro e w1 ⟨rfl, rfl⟩)
  go_ret
  exact ⟨rfl, rfl⟩
theorem rename_none (h : DiskAt w d m L room steps fuse fault false) (s t : ByteArray) (hs : Hid (s.size ≤ maxLen)) (hne : ∀ e ∈ L, e.name ≠ s.data.toList) : Calls Try.prog 17 #[.pointer (some ⟨d, 0, none⟩), .string s, .string t] w fun r w' => r = .returned (.int .i64 16) ∧ w = w' := by
  obtain ⟨D, ho, hM⟩ := h.map
  have hl := look_miss ho hM hs.out hne
  have c0 := disk0 h.disk
  have H := Lib.hid h
  clear h ho hM hne
  go_enter Try.func17, Try.ntmps17
  go_wp2_with (go_at_call 36; with_reducible refine (powered_any H.out.disk).mono ?_; rintro e w1 ⟨rfl, rfl⟩)
  go_ret
  exact ⟨rfl, rfl⟩
theorem delete_none (h : DiskAt w d m L room steps fuse fault false) (s : ByteArray) (hs : Hid (s.size ≤ maxLen)) (hne : ∀ e ∈ L, e.name ≠ s.data.toList) : Calls Try.prog 19 #[.pointer (some ⟨d, 0, none⟩), .string s] w fun r w' => r = .returned (.int .i64 16) ∧ w = w' := by
  obtain ⟨D, ho, hM⟩ := h.map
  have hl := look_miss ho hM hs.out hne
  have c0 := disk0 h.disk
  have H := Lib.hid h
  clear h ho hM hne
  go_enter Try.func19, Try.ntmps19
  go_wp2_with (go_at_call 36; with_reducible refine (powered_any H.out.disk).mono ?_; rintro e w1 ⟨rfl, rfl⟩)
  go_ret
  exact ⟨rfl, rfl⟩
theorem read_none (h : DiskAt w d m L room steps fuse fault false) (s : ByteArray) (hs : Hid (s.size ≤ maxLen)) (hne : ∀ e ∈ L, e.name ≠ s.data.toList) : Calls Try.prog 12 #[.pointer (some ⟨d, 0, none⟩), .string s] w fun r w' => r = .returned (.tuple #[.string ⟨#[]⟩, .int .i64 16]) ∧ w = w' := by
  obtain ⟨D, ho, hM⟩ := h.map
  have hl := look_miss ho hM hs.out hne
  have c0 := disk0 h.disk
  have H := Lib.hid h
  clear h ho hM hne
  go_enter Try.func12, Try.ntmps12
  go_wp2_with (go_at_call 36; with_reducible refine (powered_any H.out.disk).mono ?_; rintro e w1 ⟨rfl, rfl⟩)
  go_ret2
  exact ⟨rfl, rfl⟩
theorem create_name (h : DiskIs w d m room steps fuse fault false) (s : ByteArray) (hs : Hid (s.size ≤ maxLen)) (hn : isNm s.data.toList = false) : Calls Try.prog 10 #[.pointer (some ⟨d, 0, none⟩), .string s] w fun r w' => r = .returned (.int .i64 12) ∧ w = w' := by
  have H := Lib.hid h
  clear h
  go_enter Try.func10, Try.ntmps10
  go_wp2_with (first
    | (go_at_call 36; with_reducible refine (powered_any H.out).mono ?_; rintro e w1 ⟨rfl, rfl⟩)
    | (go_at_call 37; with_reducible refine (isName_any s hs _).mono ?_; rintro e w1 ⟨rfl, rfl⟩))
  go_ret
  exact ⟨rfl, rfl⟩
theorem rename_name (h : DiskAt w d m L room steps fuse fault false) (s t : ByteArray) (hs : Hid (s.size ≤ maxLen)) (ht : Hid (t.size ≤ maxLen)) {e : Ent} (he : e ∈ L) (hne : e.name = s.data.toList) (hn : isNm t.data.toList = false) :
    Calls Try.prog 17 #[.pointer (some ⟨d, 0, none⟩), .string s, .string t] w fun r w' => r = .returned (.int .i64 12) ∧ w = w' := by
  obtain ⟨D, ho, hM⟩ := h.map
  have hl := look_hit ho hM hs.out he hne
  have c0 := disk0 h.disk
  have H := Lib.hid h
  clear h ho hM he hne
  go_enter Try.func17, Try.ntmps17
  go_wp2_with (first
    | (go_at_call 36; with_reducible refine (powered_any H.out.disk).mono ?_; rintro e w1 ⟨rfl, rfl⟩)
    | (go_at_call 37; with_reducible refine (isName_any t ht _).mono ?_; rintro e w1 ⟨rfl, rfl⟩))
  go_ret
  exact ⟨rfl, rfl⟩
/-- a step that isn't done: its code, and the disk behind it -/
def StepFails (room steps fuse fault : Int) (code : Int) (fault' : Int) (down' : Bool) : Prop :=
  (fuse = 0 ∧ code = 13 ∧ fault' = fault ∧ down' = true) ∨ ((fuse == 0) = false ∧ fault = 0 ∧ code = 15 ∧ fault' = -1 ∧ down' = false) ∧ room = room ∧ steps = steps
theorem step_fails {code fault' : Int} {down' : Bool} (hf : StepFails room steps fuse fault code fault' down') (h : DiskIs w d m room steps fuse fault false) :
    Calls Try.prog 38 #[.pointer (some ⟨d, 0, none⟩)] w fun r w' => r = .returned (.int .i64 code) ∧ DiskIs w' d m room steps fuse fault' down' ∧ w.grownBy w' (some d) := by
  rcases hf with ⟨rfl, rfl, rfl, rfl⟩ | ⟨⟨hf, rfl, rfl, rfl, rfl⟩, _⟩
  · exact step_down h
  · exact step_fault hf h
theorem fails_code {code fault' : Int} {down' : Bool} (hf : StepFails room steps fuse fault code fault' down') : (code == 0) = false := by
  rcases hf with ⟨_, rfl, _⟩ | ⟨⟨_, _, rfl, _⟩, _⟩ <;> rfl
set_option maxRecDepth 100000 in
theorem sync_fails (h : DiskAt w d m L room steps fuse fault false) (s : ByteArray) (hs : Hid (s.size ≤ maxLen)) {e : Ent} (he : e ∈ L) (hne : e.name = s.data.toList) {code fault' : Int} {down' : Bool} (hf : StepFails room steps fuse fault code fault' down') :
    Calls Try.prog 15 #[.pointer (some ⟨d, 0, none⟩), .string s] w fun r w' => r = .returned (.int .i64 code) ∧ DiskAt w' d m L room steps fuse fault' down' ∧ Moves w (feet d m L) w' (feet d m L) := by
  have hcz := fails_code hf
  have HF := Lib.hid hf
  obtain ⟨D, ho, hM⟩ := h.map
  have hl := look_hit ho hM hs.out he hne
  have c0 := disk0 h.disk
  have H := Lib.hid h
  clear h ho hM hf he hne
  go_enter Try.func15, Try.ntmps15
  go_wp2_with (first
    | (go_at_call 36; with_reducible refine (powered_any H.out.disk).mono ?_; rintro e w1 ⟨rfl, rfl⟩)
    | (go_at_call 38; with_reducible refine (step_fails HF.out H.out.disk).mono ?_; rintro r w1 ⟨rfl, hd1, hg1⟩))
  go_ret
  exact ⟨rfl, H.out.step hd1 hg1⟩
set_option maxRecDepth 100000 in
theorem delete_fails (h : DiskAt w d m L room steps fuse fault false) (s : ByteArray) (hs : Hid (s.size ≤ maxLen)) {e : Ent} (he : e ∈ L) (hne : e.name = s.data.toList) {code fault' : Int} {down' : Bool} (hf : StepFails room steps fuse fault code fault' down') :
    Calls Try.prog 19 #[.pointer (some ⟨d, 0, none⟩), .string s] w fun r w' => r = .returned (.int .i64 code) ∧ DiskAt w' d m L room steps fuse fault' down' ∧ Moves w (feet d m L) w' (feet d m L) := by
  have hcz := fails_code hf
  have HF := Lib.hid hf
  obtain ⟨D, ho, hM⟩ := h.map
  have hl := look_hit ho hM hs.out he hne
  have c0 := disk0 h.disk
  have H := Lib.hid h
  clear h ho hM hf he hne
  go_enter Try.func19, Try.ntmps19
  go_wp2_with (first
    | (go_at_call 36; with_reducible refine (powered_any H.out.disk).mono ?_; rintro e w1 ⟨rfl, rfl⟩)
    | (go_at_call 38; with_reducible refine (step_fails HF.out H.out.disk).mono ?_; rintro r w1 ⟨rfl, hd1, hg1⟩))
  go_ret
  exact ⟨rfl, H.out.step hd1 hg1⟩
set_option maxRecDepth 100000 in
theorem rename_fails (h : DiskAt w d m L room steps fuse fault false) (s t : ByteArray) (hs : Hid (s.size ≤ maxLen)) (ht : Hid (t.size ≤ maxLen)) {e : Ent} (he : e ∈ L) (hne : e.name = s.data.toList) (hn : isNm t.data.toList = true) {code fault' : Int} {down' : Bool} (hf : StepFails room steps fuse fault code fault' down') :
    Calls Try.prog 17 #[.pointer (some ⟨d, 0, none⟩), .string s, .string t] w fun r w' => r = .returned (.int .i64 code) ∧ DiskAt w' d m L room steps fuse fault' down' ∧ Moves w (feet d m L) w' (feet d m L) := by
  have hcz := fails_code hf
  have HF := Lib.hid hf
  obtain ⟨D, ho, hM⟩ := h.map
  have hl := look_hit ho hM hs.out he hne
  have c0 := disk0 h.disk
  have H := Lib.hid h
  clear h ho hM hf he hne
  go_enter Try.func17, Try.ntmps17
  go_wp2_with (first
    | (go_at_call 36; with_reducible refine (powered_any H.out.disk).mono ?_; rintro e w1 ⟨rfl, rfl⟩)
    | (go_at_call 37; with_reducible refine (isName_any t ht _).mono ?_; rintro e w1 ⟨rfl, rfl⟩)
    | (go_at_call 38; with_reducible refine (step_fails HF.out H.out.disk).mono ?_; rintro r w1 ⟨rfl, hd1, hg1⟩))
  go_ret
  exact ⟨rfl, H.out.step hd1 hg1⟩
set_option maxRecDepth 100000 in
theorem create_fails (h : DiskAt w d m L room steps fuse fault false) (s : ByteArray) (hs : Hid (s.size ≤ maxLen)) (hn : isNm s.data.toList = true) (hne : ∀ e ∈ L, e.name ≠ s.data.toList) (hfew : L.length < 200) {code fault' : Int} {down' : Bool} (hf : StepFails room steps fuse fault code fault' down') :
    Calls Try.prog 10 #[.pointer (some ⟨d, 0, none⟩), .string s] w fun r w' => r = .returned (.int .i64 code) ∧ DiskAt w' d m L room steps fuse fault' down' ∧ Moves w (feet d m L) w' (feet d m L) := by
  have hcz := fails_code hf
  have HF := Lib.hid hf
  obtain ⟨D, ho, hM⟩ := h.map
  have hl := look_miss ho hM hs.out hne
  have hlen := ho.len Try.underlying42
  rw [hM.size] at hlen
  have c0 := disk0 h.disk
  have H := Lib.hid h
  clear h ho hM hf hne
  go_enter Try.func10, Try.ntmps10
  go_wp2_with (first
    | (go_at_call 36; with_reducible refine (powered_any H.out.disk).mono ?_; rintro e w1 ⟨rfl, rfl⟩)
    | (go_at_call 37; with_reducible refine (isName_any s hs _).mono ?_; rintro e w1 ⟨rfl, rfl⟩)
    | (go_at_call 38; with_reducible refine (step_fails HF.out H.out.disk).mono ?_; rintro r w1 ⟨rfl, hd1, hg1⟩))
  go_ret
  exact ⟨rfl, H.out.step hd1 hg1⟩
end
end Go.Proofs.Ytpeobjnamflibaa.Dk
