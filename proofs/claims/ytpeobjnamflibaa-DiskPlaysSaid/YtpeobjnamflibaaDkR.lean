/-
  The Go text of Rename of a disk, walked. Conditions: as each theorem states.
-/
import Derived.Test.YtpeobjnamflibaaDkQ
namespace Go.Proofs.Ytpeobjnamflibaa.Dk
open Go.RowKit Go.Maps

/-- the files behind a Rename -/
def renamed (A B : List Ent) (e : Ent) (x : List UInt8) : List Ent := (A ++ B).filter (fun y => decide (y.name ≠ x)) ++ [⟨x, e.bytes, e.sure, e.blk, e.v⟩]
theorem Only.widen {fp fq : List Nat} {w w' : World} (h : Only fp w w') (hs : ∀ k ∈ fp, k ∈ fq) : Only fq w w' := ⟨h.os, h.tape, h.output, h.size, fun i hi hn => h.block i hi (fun hm => hn (hs i hm))⟩
theorem filter_foot {L : List Ent} (p : Ent → Bool) : List.Sublist ((L.filter p).flatMap Ent.foot) (L.flatMap Ent.foot) := by
  induction L with
  | nil => exact List.Sublist.slnil
  | cons a L ih =>
    rw [List.filter_cons, List.flatMap_cons]
    split
    · rw [List.flatMap_cons]
      exact List.Sublist.append (List.Sublist.refl _) ih
    · exact ih.trans (List.sublist_append_right _ _)
theorem usedL_filter (p : Ent → Bool) (L : List Ent) : usedL (L.filter p) ≤ usedL L := by
  induction L with
  | nil => exact Nat.le_refl _
  | cons a L ih =>
    rw [List.filter_cons]
    split
    · simp [usedL] at ih ⊢; omega
    · simp [usedL] at ih ⊢; omega
theorem rename_end {w4 W w6 : World} {d m : Nat} {A B : List Ent} {e : Ent} {D : DataW Unit} {x : List UInt8} {room steps fuse fault : Int} {down : Bool} (h : DiskAt w4 d m (A ++ B) room steps fuse fault down) (hFe : FileAt w4 e)
    (hap : (feet d m (A ++ e :: B)).Nodup) (hx : x.length ≤ 32) (hvol : usedL (A ++ e :: B) ≤ 16777216) (hfew : (A ++ B).length < 200) (hb : Below w4.heap.size w4 W)
    (ho : w4.ownsMap Try.prog 9 ptrElem m (A ++ B).length D) (hM : MapIs D (A ++ B)) {n : Nat} (ho6 : w6.ownsMap Try.prog 9 ptrElem m n (D.put (.string x) (.lit (.int .i64 (e.blk : Int))))) (hg : W.grownBy w6 (some m)) :
    DiskAt w6 d m (renamed A B e x) room steps fuse fault down ∧ Only [m] w4 w6 ∧ ∀ k ∈ feet d m (renamed A B e x), k ∈ feet d m (A ++ e :: B) := by
  have hlt := h.lt
  have hMp := mapIs_over (ho.tidy key9) hM h.names ⟨x, e.bytes, e.sure, e.blk, e.v⟩
  have hon : Only [m] w4 w6 := (Only.of_below hb).trans (Only.of_grown hg (fun k e0 => by injection e0 with e0; subst e0; simp))
  have hfd : (feet d m (A ++ e :: B)) = (d :: m :: A.flatMap Ent.foot) ++ (e.foot ++ B.flatMap Ent.foot) := by simp [feet]
  have hfr : feet d m (renamed A B e x) = (d :: m :: ((A ++ B).filter (fun y => decide (y.name ≠ x))).flatMap Ent.foot) ++ e.foot := by
    simp [feet, renamed, Ent.foot]
  have hsubl := filter_foot (L := A ++ B) (fun y => decide (y.name ≠ x))
  have hsub : ∀ k ∈ feet d m (renamed A B e x), k ∈ feet d m (A ++ e :: B) := by
    intro k hk
    rw [hfr] at hk
    rcases List.mem_append.1 hk with hk | hk
    · rcases List.mem_cons.1 hk with rfl | hk
      · simp [feet]
      · rcases List.mem_cons.1 hk with rfl | hk
        · simp [feet]
        · have := hsubl.subset hk
          rw [List.flatMap_append] at this
          rw [hfd]
          rcases List.mem_append.1 this with h1 | h1
          · exact List.mem_append_left _ (by simp [h1])
          · exact List.mem_append_right _ (List.mem_append_right _ h1)
    · rw [hfd]; exact List.mem_append_right _ (List.mem_append_left _ hk)
  have hap' := hap
  rw [hfd] at hap'
  have hdm : (d :: m :: (A ++ B).flatMap Ent.foot).Nodup := h.apart
  have hnm : ∀ k ∈ (A ++ B).flatMap Ent.foot, k ≠ m := by
    intro k hk e0
    subst e0
    exact (List.nodup_cons.1 (List.nodup_cons.1 hdm).2).1 hk
  have hem : ∀ k ∈ e.foot, k ≠ m := by
    intro k hk e0
    subst e0
    rw [List.nodup_append] at hap'
    exact hap'.2.2 k (by simp) k (List.mem_append_left _ hk) rfl
  have hmem : ∀ y, y ∈ renamed A B e x → (y ∈ A ++ B ∧ y.name ≠ x) ∨ y = ⟨x, e.bytes, e.sure, e.blk, e.v⟩ := fun y hy => by
    unfold renamed at hy
    rcases List.mem_append.1 hy with hy | hy
    · rw [List.mem_filter] at hy
      exact Or.inl ⟨hy.1, by simpa using hy.2⟩
    · exact Or.inr (by simpa using hy)
  refine ⟨⟨?_, ⟨_, ?_, hMp⟩, ?_, ?_, ?_, ?_, ?_, ?_⟩, hon, hsub⟩
  · exact (hon.block d (hlt d (by simp [feet])) (fun hd => disk_ne h (List.mem_singleton.1 hd).symm)).trans h.disk
  · have := own_tight ho6
    rw [hMp.size] at this
    exact this
  · intro y hy
    rcases hmem y hy with ⟨hy, _⟩ | rfl
    · exact (h.files y hy).kept (fun k hk => hon.block k ((h.files y hy).lt k hk) (by intro hk'; exact hnm k (List.mem_flatMap.2 ⟨y, hy, hk⟩) (by simpa using hk')))
    · have := hFe.kept (w' := w6) (fun k hk => hon.block k (hFe.lt k hk) (by intro hk'; exact hem k hk (by simpa using hk')))
      exact ⟨this.cells, this.row, this.sure⟩
  · unfold renamed
    rw [List.pairwise_append]
    refine ⟨h.names.filter _, by simp, fun a ha b hb' => ?_⟩
    have hb2 : b = ⟨x, e.bytes, e.sure, e.blk, e.v⟩ := by simpa using hb'
    subst hb2
    rw [List.mem_filter] at ha
    simpa using ha.2
  · intro y hy
    rcases hmem y hy with ⟨hy, _⟩ | rfl
    · exact h.short y hy
    · exact hx
  · rw [hfr, List.nodup_append]
    have hsl : List.Sublist (d :: m :: ((A ++ B).filter (fun y => decide (y.name ≠ x))).flatMap Ent.foot) (d :: m :: (A ++ B).flatMap Ent.foot) := (hsubl.cons_cons m).cons_cons d
    rw [List.nodup_append] at hap'
    refine ⟨hsl.nodup hdm, (List.nodup_append.1 hap'.2.1).1, fun a ha b hb' e0 => ?_⟩
    subst e0
    have ha2 := hsl.subset ha
    rw [List.flatMap_append] at ha2
    rcases List.mem_cons.1 ha2 with h1 | ha2
    · exact hap'.2.2 a (by simp [h1]) a (List.mem_append_left _ hb') rfl
    · rcases List.mem_cons.1 ha2 with h1 | ha2
      · exact hap'.2.2 a (by simp [h1]) a (List.mem_append_left _ hb') rfl
      · rcases List.mem_append.1 ha2 with h1 | h1
        · exact hap'.2.2 a (by simp [h1]) a (List.mem_append_left _ hb') rfl
        · exact (List.nodup_append.1 hap'.2.1).2.2 a hb' a h1 rfl
  · unfold renamed
    have := List.length_filter_le (fun y : Ent => decide (y.name ≠ x)) (A ++ B)
    rw [List.length_append, List.length_singleton]
    omega
  · unfold renamed
    have h1 := usedL_filter (fun y => decide (y.name ≠ x)) (A ++ B)
    rw [usedL_mid] at hvol
    simp [usedL] at h1 hvol ⊢
    omega
set_option maxRecDepth 100000 in
theorem rename_ok {w : World} {d m : Nat} {A B : List Ent} {e : Ent} {room steps fuse fault : Int} (h : DiskAt w d m (A ++ e :: B) room steps fuse fault false) (s t : ByteArray) (hs : Hid (s.size ≤ maxLen)) (ht : Hid (t.size ≤ maxLen)) (ht' : Hid (t.size ≤ 281474976710656))
    (hne : e.name = s.data.toList) (hn : isNm t.data.toList = true) (hcs : CanStep steps fuse fault) :
    Calls Try.prog 17 #[.pointer (some ⟨d, 0, none⟩), .string s, .string t] w fun r w' => r = .returned (.int .i64 0) ∧ DiskAt w' d m (renamed A B e t.data.toList) room (steps + 1) (tick fuse) (tick fault) false ∧
      Moves w (feet d m (A ++ e :: B)) w' (feet d m (renamed A B e t.data.toList)) := by
  obtain ⟨D, ho, hM⟩ := h.map
  have hl := look_hit ho hM hs.out (show e ∈ A ++ e :: B by simp) hne
  have c0 := disk0 h.disk
  have hfew := h.few
  have H := Lib.hid h
  have HO := Lib.hid (And.intro ho (And.intro hM hne))
  clear h ho hM hne
  go_enter Try.func17, Try.ntmps17
  go_wp2_with (first
    | (go_at_call 36; with_reducible refine (powered_any H.out.disk).mono ?_; rintro r w1 ⟨rfl, rfl⟩)
    | (go_at_call 37; with_reducible refine (isName_any t ht _).mono ?_; rintro e w1 ⟨rfl, rfl⟩)
    | (go_at_call 38
       with_reducible refine (step_can hcs H.out.disk).mono ?_
       rintro r w3 ⟨rfl, hd3, hg3⟩
       have HD3 := Lib.hid (H.out.step hd3 hg3)
       have HO3 := Lib.hid (own_kept HO.out.1 (hg3.block m (H.out.lt m (by simp [feet])) (by intro e; injection e with e; exact disk_ne H.out e)))
       have c0' := disk0 HD3.out.1.disk
       clear hd3 hg3)
    | (at_delete
       refine wpList_delete_own _ rfl _ _ 42 9 rfl 59 key9 Try.underlying42 ptrElem m (A ++ e :: B).length D rfl HO3.out _ _ rfl (keyOf9 hs.out) ?_
       intro w4 hown4 hturn4
       go_frame))
  rw [← HO.out.2.2] at hown4
  obtain ⟨hD4, hMv4⟩ := delete_end HD3.out.1 HO3.out HO.out.2.1 hown4 hturn4.grown
  have c4 := disk0 hD4.disk
  have hfew4 : (A ++ B).length < 200 := by simp at hfew ⊢; omega
  have hdl : d < w4.heap.size := hD4.lt d (by simp [feet])
  have hml : m < w4.heap.size := hD4.lt m (by simp [feet])
  have hdm : m ≠ d := disk_ne hD4
  obtain ⟨D4, ho4, hM4⟩ := hD4.map
  have HD4 := Lib.hid (And.intro hD4 (And.intro hMv4 (And.intro ho4 hM4)))
  have hFe4 : Hid (FileAt w4 e) := Lib.hid ((HD3.out.1.files e (by simp)).kept (fun k hk => hturn4.grown.block k ((HD3.out.1.files e (by simp)).lt k hk) (by
    intro e0
    injection e0 with e0
    subst e0
    exact (List.nodup_cons.1 (List.nodup_cons.1 HD3.out.1.apart).2).1 (List.mem_flatMap.2 ⟨e, by simp, hk⟩))))
  clear hD4 hMv4 ho4 hM4 hown4 hturn4 c0 c0'
  go_region_held3 (fun wx => wx.cell? ⟨d, 0, none⟩ = some (.map (some m))) (first | go_keep | (rw [hb2.cell (p := ⟨d, 0, none⟩) (by simp; omega)]; go_keep) | (refine grown_cell hgrow3 (by first | omega | (simp; omega)) hdm ?_; first | assumption | go_keep))
    (first
      | (go_at_call 39; refine (clone_any t _ ht').mono ?_; rintro e w2 ⟨rfl, hb2⟩; have hz2 : w4.heap.size ≤ w2.heap.size := by (have := hb2.size; simp at this; omega))
      | (obtain ⟨w5, hrun3, hown3, hgrow3⟩ := upd_file ht.out (own_below HD4.out.2.2.1.drew (by simp; omega) hb2) (by unfold maxLen; omega) e.blk
         rw [hrun3]
         simp only [Result.andThen]
         rw [Oper.upon_skip]))
  all_goals
    go_wp2
    go_ret
    refine ⟨rfl, ?_⟩
    obtain ⟨e1, e2, e3⟩ := rename_end HD4.out.1 hFe4.out H.out.apart (isNm_len hn) H.out.vol hfew4 ((Below.refl _ w4).drew.trans hb2) HD4.out.2.2.1 HD4.out.2.2.2 hown3 hgrow3
    exact ⟨e1, HD3.out.2.trans ⟨HD4.out.2.1.only.trans (e2.widen (by simp [feet])), fun k hk => Or.inl (e3 k hk)⟩⟩
end Go.Proofs.Ytpeobjnamflibaa.Dk
