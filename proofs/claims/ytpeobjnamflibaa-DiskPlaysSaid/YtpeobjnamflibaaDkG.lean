/-
  The Go text of Append of a disk, walked. Conditions: as each theorem states.
-/
import Derived.Test.YtpeobjnamflibaaDkF
namespace Go.Proofs.Ytpeobjnamflibaa.Dk
open Go.RowKit Go.Maps

theorem only_grown_none {fp : List Nat} {w w' : World} {v : Option Nat} (h : w.grownBy w' v) (hv : ∀ g, v = some g → g ∈ fp) : Only fp w w' := Only.of_grown h hv
theorem usedL_mid (A B : List Ent) (e : Ent) : usedL (A ++ e :: B) = usedL A + e.bytes.length + usedL B := by simp [usedL]; omega
/-- a step that has no error of its own is done -/
structure CanStep (steps fuse fault : Int) : Prop where
  hf : (fuse == 0) = false
  ha : (fault == 0) = false
  b1 : -1 ≤ fuse
  b2 : -1 ≤ fault
  b3 : fuse ≤ 9223372036854775807
  b4 : fault ≤ 9223372036854775807
  b5 : 0 ≤ steps
  b6 : steps < 9223372036854775807
theorem step_can {w : World} {d m : Nat} {room steps fuse fault : Int} (hc : CanStep steps fuse fault) (h : DiskIs w d m room steps fuse fault false) :
    Calls Try.prog 38 #[.pointer (some ⟨d, 0, none⟩)] w fun e w' => e = .returned (.int .i64 0) ∧ DiskIs w' d m room (steps + 1) (tick fuse) (tick fault) false ∧ w.grownBy w' (some d) :=
  step_ok hc.hf hc.ha hc.b1 hc.b2 hc.b3 hc.b4 hc.b5 hc.b6 h
theorem DiskAt.drew {w : World} {d m : Nat} {L : List Ent} {room steps fuse fault : Int} {down : Bool} (h : DiskAt w d m L room steps fuse fault down) : DiskAt w.drew d m L room steps fuse fault down := h.below (Below.refl _ _).drew
theorem row_slice {w : World} {base ty size n : Nat} {v : Value} {xs : List Value} (h : w.ownsRow base ty size v n xs) : ∃ a c, v = .slice a n c := by
  rcases h.2 with ⟨h1, h2⟩ | ⟨g, cap, cur, h1, _⟩
  · exact ⟨none, 0, by rw [h1, h2]⟩
  · exact ⟨_, _, h1⟩
theorem foot_ne {w : World} {d m : Nat} {A B : List Ent} {e : Ent} {room steps fuse fault : Int} {down : Bool} (h : DiskAt w d m (A ++ e :: B) room steps fuse fault down) : e.v.ownBlock ≠ some e.blk := by
  intro he
  have hap := h.apart
  have : (feet d m (A ++ e :: B)) = (d :: m :: A.flatMap Ent.foot) ++ (e.foot ++ B.flatMap Ent.foot) := by simp [feet]
  rw [this, List.nodup_append] at hap
  have h2 := (List.nodup_append.1 hap.2.1).1
  unfold Ent.foot at h2
  rw [he] at h2
  simp at h2
theorem after_append {w w' : World} {d m : Nat} {A B : List Ent} {e : Ent} {room steps fuse fault : Int} {down : Bool} (h : DiskAt w d m (A ++ e :: B) room steps fuse fault down) (hg : w.grownBy w' e.v.ownBlock) :
    w'.cell? ⟨e.blk, 0, none⟩ = some e.v ∧ w'.frozen? ⟨e.blk, 0, none⟩ = false := by
  have hF := h.files e (by simp)
  have hk : w'.heap[e.blk]? = some (.cells (fileCells e) 62 (0, 0)) := (hg.block e.blk (hF.lt e.blk (by simp [Ent.foot])) (fun e0 => foot_ne h e0.symm)).trans hF.cells
  exact ⟨cell_in hk 0 _ rfl, free_in hk 0⟩
theorem append_end {w3 w4 : World} {d m : Nat} {A B : List Ent} {e : Ent} {room steps fuse fault : Int} {down : Bool} (h : DiskAt w3 d m (A ++ e :: B) room steps fuse fault down) (t : ByteArray) {v' : Value}
    (hrow : w4.ownsRow 0 5 1 v' (e.bytes.length + t.size) (e.bytes.map u8v ++ Lib.strCells t)) (hg : w3.grownBy w4 e.v.ownBlock) (hwh : v'.ownBlock = e.v.ownBlock ∨ v'.ownBlock = some w3.heap.size)
    (hvol : usedL (A ++ ⟨e.name, e.bytes ++ t.data.toList, e.sure, e.blk, v'⟩ :: B) ≤ 16777216) :
    DiskAt (w4.setCell ⟨e.blk, 0, none⟩ v') d m (A ++ ⟨e.name, e.bytes ++ t.data.toList, e.sure, e.blk, v'⟩ :: B) room steps fuse fault down ∧
      Moves w3 (feet d m (A ++ e :: B)) (w4.setCell ⟨e.blk, 0, none⟩ v') (feet d m (A ++ ⟨e.name, e.bytes ++ t.data.toList, e.sure, e.blk, v'⟩ :: B)) := by
  have hF := h.files e (by simp)
  have hlt : e.blk < w3.heap.size := hF.lt e.blk (by simp [Ent.foot])
  have hk : w4.heap[e.blk]? = some (.cells (fileCells e) 62 (0, 0)) := (hg.block e.blk hlt (fun e0 => foot_ne h e0.symm)).trans hF.cells
  have hl : t.data.toList.length = t.size := by rw [Array.length_toList]; rfl
  have hvb : v'.ownBlock ≠ some e.blk := by
    rcases hwh with hw | hw
    · rw [hw]; exact foot_ne h
    · rw [hw]; intro e0; injection e0 with e0; omega
  refine file_end h (e' := ⟨e.name, e.bytes ++ t.data.toList, e.sure, e.blk, v'⟩) ?_ ⟨?_, ?_, ?_⟩ rfl rfl ?_ hvol
  · refine (Only.of_grown hg (fun k e0 => by simp [Ent.foot, e0])).trans (Only.of_grown (grown_set _ _ _ _) (fun k e0 => ?_))
    injection e0 with e0
    subst e0
    simp [Ent.foot]
  · exact heap_set hk 0 v'
  · have e1 : (e.bytes ++ t.data.toList).length = e.bytes.length + t.size := by rw [List.length_append, hl]
    have e2 : (e.bytes ++ t.data.toList).map u8v = e.bytes.map u8v ++ Lib.strCells t := by rw [List.map_append]; rfl
    show World.ownsRow _ 0 5 1 v' (e.bytes ++ t.data.toList).length ((e.bytes ++ t.data.toList).map u8v)
    rw [e1, e2]
    exact ownsRow_kept hrow (fun g hgv => Below.heap_setCell w4 ⟨e.blk, 0, none⟩ v' g (fun e0 => hvb (by rw [hgv, e0])))
  · have := hF.sure
    show e.sure ≤ (e.bytes ++ t.data.toList).length
    rw [List.length_append]; omega
  · rcases hwh with hw | hw
    · exact Or.inl hw
    · exact Or.inr ⟨_, hw, Nat.le_refl _⟩
set_option maxRecDepth 100000 in
theorem append_ok {w : World} {d m : Nat} {A B : List Ent} {e : Ent} {room steps fuse fault : Int} (h : DiskAt w d m (A ++ e :: B) room steps fuse fault false) (s t : ByteArray) (hs : Hid (s.size ≤ maxLen)) (ht : t.size ≤ 9223372036854775807)
    (hne : e.name = s.data.toList) (hr0 : room ≤ 16777216) (hroom : ((usedL (A ++ e :: B) : Nat) : Int) + (t.size : Int) ≤ room)
    (hcs : CanStep steps fuse fault) :
    Calls Try.prog 11 #[.pointer (some ⟨d, 0, none⟩), .string s, .string t] w fun r w' => r = .returned (.int .i64 0) ∧ ∃ v', DiskAt w' d m (A ++ ⟨e.name, e.bytes ++ t.data.toList, e.sure, e.blk, v'⟩ :: B) room (steps + 1) (tick fuse) (tick fault) false ∧
      Moves w (feet d m (A ++ e :: B)) w' (feet d m (A ++ ⟨e.name, e.bytes ++ t.data.toList, e.sure, e.blk, v'⟩ :: B)) := by
  obtain ⟨D, ho, hM⟩ := h.map
  have hl := look_hit ho hM hs.out (show e ∈ A ++ e :: B by simp) hne
  have c0 := disk0 h.disk
  have c1 := disk1 h.disk
  have H := Lib.hid h
  clear h ho hM
  go_enter Try.func11, Try.ntmps11
  go_wp2_with (first
    | (go_at_call 36; with_reducible refine (powered_any H.out.disk).mono ?_; rintro r w1 ⟨rfl, rfl⟩))
  have hu := H.out.vol
  have hdl : d < w.heap.size := H.out.lt d (by simp [feet])
  obtain ⟨U, hU⟩ : ∃ U, usedL (A ++ e :: B) = U := ⟨_, rfl⟩
  have hUsed : ∀ {W : World}, DiskAt W d m (A ++ e :: B) room steps fuse fault false → Calls Try.prog 30 #[.pointer (some ⟨d, 0, none⟩)] W fun r w' => r = .returned (.int .i64 ((U : Nat) : Int)) ∧ Below W.heap.size W w' := by
    intro W hW; rw [← hU]; exact used_any hW
  rw [hU] at hu hroom
  have HUs := Lib.hid (And.intro hU @hUsed)
  clear hU hUsed
  have hw1 : IntKind.i64.wrap (room - (U : Int)) = room - (U : Int) := IntWalk.i64_in _ (by omega)
  go_region_held3 (fun wx => wx.cell? ⟨d, 1, none⟩ = some (.int .i64 room)) (first | go_keep | (rw [hb2.cell (p := ⟨d, 1, none⟩) (by simp; omega)]; go_keep))
    (first
      | (go_at_call 30; refine (HUs.out.2 H.out.drew).mono ?_; rintro r w2 ⟨rfl, hb2⟩))
  clear hw1
  have hle : ¬ (room - (U : Int) < (t.size : Int)) := by omega
  have HD2 := Lib.hid (H.out.below ((Below.refl _ w).drew.trans hb2))
  go_wp2_with (first
    | (go_at_call 38
       with_reducible refine (step_can hcs HD2.out.disk).mono ?_
       rintro r w3 ⟨rfl, hd3, hg3⟩
       have HD3 := Lib.hid (HD2.out.step hd3 hg3)
       have f0 := file0 (HD3.out.1.files e (by simp))
       clear hd3 hg3)
    | (at_builtin
       refine wpList_append_file rfl _ _ rfl e.v e.bytes.length _ rfl (HD3.out.1.files e (by simp)).row t rfl (by have := usedL_mid A B e; have := HUs.out.1; omega) ?_
       intro v' w4 hrow4 hg4 hwh
       obtain ⟨va, vc, hv4⟩ := row_slice hrow4
       have hx4 := after_append HD3.out.1 hg4
       obtain ⟨c4, fz4⟩ := hx4
       have HX := Lib.hid (And.intro hrow4 (And.intro hg4 hwh))
       clear hrow4 hg4 hwh
       subst hv4))
  go_ret
  refine ⟨rfl, .slice va (e.bytes.length + t.size) vc, ?_⟩
  obtain ⟨e1, e2⟩ := append_end HD3.out.1 t HX.out.1 HX.out.2.1 HX.out.2.2 (by have h1 := HUs.out.1; rw [usedL_mid] at h1 ⊢; simp; omega)
  exact ⟨e1, (Moves.trans ⟨Only.of_below ((Below.refl _ w).drew.trans hb2), fun _ hk => Or.inl hk⟩ HD3.out.2).trans e2⟩
end Go.Proofs.Ytpeobjnamflibaa.Dk
