/-
  The Go text of Create on a full disk and of Delete, and two hundred names, walked. Conditions: as each theorem states.
-/
import Derived.Test.YtpeobjnamflibaaDkK
namespace Go.Proofs.Ytpeobjnamflibaa.Dk
open Go.RowKit Go.Maps Go.Sort

set_option maxRecDepth 100000 in
theorem create_many {w : World} {d m : Nat} {L : List Ent} {room steps fuse fault : Int} (h : DiskAt w d m L room steps fuse fault false) (s : ByteArray) (hs : Hid (s.size ≤ maxLen))
    (hn : isNm s.data.toList = true) (hne : ∀ e ∈ L, e.name ≠ s.data.toList) (hmany : L.length = 200) :
    Calls Try.prog 10 #[.pointer (some ⟨d, 0, none⟩), .string s] w fun r w' => r = .returned (.int .i64 6) ∧ w = w' := by
  obtain ⟨D, ho, hM⟩ := h.map
  have hl := look_miss ho hM hs.out hne
  have hlen := ho.len Try.underlying42
  rw [hM.size, hmany] at hlen
  have c0 := disk0 h.disk
  have H := Lib.hid h
  clear h ho hM hne hmany
  go_enter Try.func10, Try.ntmps10
  go_wp2_with (first
    | (go_at_call 36; with_reducible refine (powered_any H.out.disk).mono ?_; rintro e w1 ⟨rfl, rfl⟩)
    | (go_at_call 37; with_reducible refine (isName_any s hs _).mono ?_; rintro e w1 ⟨rfl, rfl⟩))
  go_ret
  exact ⟨rfl, rfl⟩
/-- a file out of the map -/
theorem mapIs_del {D : DataW Unit} {A B : List Ent} {e : Ent} (hT : Maps.Tidy D) (hM : MapIs D (A ++ e :: B)) (hp : (A ++ e :: B).Pairwise (fun a b => a.name ≠ b.name)) : MapIs (D.del (.string e.name)) (A ++ B) := by
  rw [List.pairwise_append, List.pairwise_cons] at hp
  obtain ⟨_, ⟨p2, _⟩, p4⟩ := hp
  have hne : ∀ x ∈ A ++ B, x.name ≠ e.name := by
    intro x hx
    rcases List.mem_append.1 hx with hx | hx
    · exact p4 x hx e (by simp)
    · exact Ne.symm (p2 x hx)
  have hmem : ∀ x, x ∈ A ++ e :: B ↔ x ∈ A ++ B ∨ x = e := fun x => by
    simp only [List.mem_append, List.mem_cons]
    constructor
    · rintro (h | h | h)
      · exact Or.inl (Or.inl h)
      · exact Or.inr h
      · exact Or.inl (Or.inr h)
    · rintro ((h | h) | h)
      · exact Or.inl h
      · exact Or.inr (Or.inr h)
      · exact Or.inr (Or.inl h)
  refine ⟨fun x => ?_, fun x hx => ?_, ?_⟩
  · by_cases hx : x = e.name
    · subst hx
      rw [Maps.has_del_same]
      constructor
      · intro h; cases h
      · rintro ⟨y, hy, hyn⟩; exact absurd hyn (hne y hy)
    · rw [Maps.has_del_other (lit_ne hx), hM.has x]
      constructor
      · rintro ⟨y, hy, hyn⟩
        rcases (hmem y).1 hy with hy | rfl
        · exact ⟨y, hy, hyn⟩
        · exact absurd hyn.symm hx
      · rintro ⟨y, hy, hyn⟩; exact ⟨y, (hmem y).2 (Or.inl hy), hyn⟩
  · rw [Maps.atKey_del_other (lit_ne (hne x hx))]
    exact hM.here x ((hmem x).2 (Or.inl hx))
  · have hs := Maps.size_del (k := .string e.name) hT
    have hh : Maps.has D (.string e.name) = true := (hM.has _).2 ⟨e, by simp, rfl⟩
    rw [hh, hM.size] at hs
    simp at hs ⊢
    omega
theorem delete_end {w1 w3 : World} {d m : Nat} {A B : List Ent} {e : Ent} {D : DataW Unit} {room steps fuse fault : Int} {down : Bool} (h : DiskAt w1 d m (A ++ e :: B) room steps fuse fault down)
    (ho : w1.ownsMap Try.prog 9 ptrElem m (A ++ e :: B).length D) (hM : MapIs D (A ++ e :: B)) {n : Nat} (ho3 : w3.ownsMap Try.prog 9 ptrElem m n (D.del (.string e.name))) (hg : w1.grownBy w3 (some m)) :
    DiskAt w3 d m (A ++ B) room steps fuse fault down ∧ Moves w1 (feet d m (A ++ e :: B)) w3 (feet d m (A ++ B)) := by
  have hlt := h.lt
  have hap := h.apart
  have hMd := mapIs_del (ho.tidy key9) hM h.names
  have hsub : ∀ x, x ∈ A ++ B → x ∈ A ++ e :: B := fun x hx => by simp at hx ⊢; rcases hx with hx | hx <;> simp [hx]
  have hfs : ∀ k, k ∈ feet d m (A ++ B) → k ∈ feet d m (A ++ e :: B) := by
    intro k hk
    rcases mem_feet.1 hk with hk | hk | ⟨x, hx, hk⟩
    · exact mem_feet.2 (Or.inl hk)
    · exact mem_feet.2 (Or.inr (Or.inl hk))
    · exact mem_feet.2 (Or.inr (Or.inr ⟨x, hsub x hx, hk⟩))
  have hfd : (feet d m (A ++ e :: B)) = (d :: m :: A.flatMap Ent.foot) ++ (e.foot ++ B.flatMap Ent.foot) := by simp [feet]
  have hfd' : (feet d m (A ++ B)) = (d :: m :: A.flatMap Ent.foot) ++ B.flatMap Ent.foot := by simp [feet]
  have hnm : ∀ k ∈ (A ++ e :: B).flatMap Ent.foot, k ≠ m := by
    intro k hk e0
    subst e0
    exact (List.nodup_cons.1 (List.nodup_cons.1 hap).2).1 hk
  have hkeep : ∀ k ∈ feet d m (A ++ e :: B), k ≠ m → w3.heap[k]? = w1.heap[k]? := fun k hk hn => hg.block k (hlt k hk) (by intro e0; injection e0 with e0; exact hn e0)
  have hv := h.vol
  rw [usedL_mid] at hv
  refine ⟨⟨(hkeep d (by simp [feet]) (fun e0 => disk_ne h e0.symm)).trans h.disk, ⟨_, ?_, hMd⟩, fun x hx => (h.files x (hsub x hx)).kept (fun k hk => hkeep k (mem_feet.2 (Or.inr (Or.inr ⟨x, hsub x hx, hk⟩))) (hnm k (List.mem_flatMap.2 ⟨x, hsub x hx, hk⟩))), ?_, fun x hx => h.short x (hsub x hx), ?_, ?_, ?_⟩,
    ⟨Only.of_grown hg (fun k e0 => by injection e0 with e0; subst e0; simp [feet]), fun k hk => Or.inl (hfs k hk)⟩⟩
  · have := own_tight ho3
    rw [hMd.size] at this
    exact this
  · have hp := h.names
    rw [List.pairwise_append, List.pairwise_cons] at hp
    rw [List.pairwise_append]
    exact ⟨hp.1, hp.2.1.2, fun a ha b hb => hp.2.2 a ha b (by simp [hb])⟩
  · rw [hfd, List.nodup_append] at hap
    rw [hfd', List.nodup_append]
    have h2 := List.nodup_append.1 hap.2.1
    exact ⟨hap.1, h2.2.1, fun a ha b hb => hap.2.2 a ha b (List.mem_append_right _ hb)⟩
  · have := h.few
    simp at this ⊢
    omega
  · simp [usedL] at hv ⊢
    omega
set_option maxRecDepth 100000 in
theorem delete_ok {w : World} {d m : Nat} {A B : List Ent} {e : Ent} {room steps fuse fault : Int} (h : DiskAt w d m (A ++ e :: B) room steps fuse fault false) (s : ByteArray) (hs : Hid (s.size ≤ maxLen)) (hne : e.name = s.data.toList) (hcs : CanStep steps fuse fault) :
    Calls Try.prog 19 #[.pointer (some ⟨d, 0, none⟩), .string s] w fun r w' => r = .returned (.int .i64 0) ∧ DiskAt w' d m (A ++ B) room (steps + 1) (tick fuse) (tick fault) false ∧
      Moves w (feet d m (A ++ e :: B)) w' (feet d m (A ++ B)) := by
  obtain ⟨D, ho, hM⟩ := h.map
  have hl := look_hit ho hM hs.out (show e ∈ A ++ e :: B by simp) hne
  have c0 := disk0 h.disk
  have H := Lib.hid h
  have HO := Lib.hid (And.intro ho (And.intro hM hne))
  clear h ho hM hne
  go_enter Try.func19, Try.ntmps19
  go_wp2_with (first
    | (go_at_call 36; with_reducible refine (powered_any H.out.disk).mono ?_; rintro r w1 ⟨rfl, rfl⟩)
    | (go_at_call 38
       with_reducible refine (step_can hcs H.out.disk).mono ?_
       rintro r w3 ⟨rfl, hd3, hg3⟩
       have HD3 := Lib.hid (H.out.step hd3 hg3)
       have ho3 := own_kept HO.out.1 (hg3.block m (H.out.lt m (by simp [feet])) (by intro e; injection e with e; exact disk_ne H.out e))
       have HO3 := Lib.hid ho3
       have c0' := disk0 HD3.out.1.disk
       clear hd3 hg3 ho3)
    | (at_delete
       refine wpList_delete_own _ rfl _ _ 42 9 rfl 59 key9 Try.underlying42 ptrElem m (A ++ e :: B).length D rfl HO3.out _ _ rfl (keyOf9 hs.out) ?_
       intro w4 hown4 hturn4))
  go_ret
  rw [← HO.out.2.2] at hown4
  obtain ⟨e1, e2⟩ := delete_end HD3.out.1 HO3.out HO.out.2.1 hown4 hturn4.grown
  exact ⟨rfl, e1, HD3.out.2.trans e2⟩

/-! ### two hundred names -/
def nm (k : Nat) : List UInt8 := [UInt8.ofNat (97 + k / 26), UInt8.ofNat (97 + k % 26)]
theorem nm_ok : ∀ k, k < 200 → isNm (nm k) = true := by decide +kernel
theorem nm_inj {i j : Nat} (hi : i < 200) (hj : j < 200) (h : nm i = nm j) : i = j := by
  unfold nm at h
  injection h with h1 h2
  injection h2 with h2 _
  have a1 := congrArg UInt8.toNat h1
  have a2 := congrArg UInt8.toNat h2
  rw [UInt8.toNat_ofNat', UInt8.toNat_ofNat'] at a1 a2
  omega
theorem nm_z {k : Nat} : nm k ≠ [122, 57] := by
  intro h
  unfold nm at h
  injection h with h1 h2
  injection h2 with h2 _
  have a2 := congrArg UInt8.toNat h2
  rw [UInt8.toNat_ofNat'] at a2
  have : (57 : UInt8).toNat = 57 := rfl
  omega
theorem list_len {w : World} {d m : Nat} {L : List Ent} {room steps fuse fault : Int} {down : Bool} (h : DiskAt w d m L room steps fuse fault down) {n : Nat} (hn : L.length = n) :
    Calls Try.prog 27 #[.pointer (some ⟨d, 0, none⟩)] w fun r w' => (∃ a c, r = .returned (.slice a n c)) ∧ Below w.heap.size w w' := by
  obtain ⟨D, ho, hM⟩ := h.map
  have hsz : Maps.size D ≤ 200 := by rw [hM.size]; exact h.few
  refine (list_any h.disk ho (by unfold maxLen; omega) (by omega)).mono ?_
  rintro r w' ⟨v, ss, rfl, hp, hrow, _, hb⟩
  obtain ⟨a, c, rfl⟩ := row_slice hrow
  have hl : ss.length = n := by
    have h1 := (hp.trans (names_perm h ho hM).symm).length_eq
    rw [List.length_map] at h1
    omega
  exact ⟨⟨a, c, by rw [hl]⟩, hb⟩
end Go.Proofs.Ytpeobjnamflibaa.Dk
