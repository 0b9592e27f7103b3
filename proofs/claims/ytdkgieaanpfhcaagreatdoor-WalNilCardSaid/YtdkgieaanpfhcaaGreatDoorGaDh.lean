/-
  Several texts in one: DkF, DkG, DkH. Conditions: as each theorem states.
-/
import Derived.Test.YtdkgieaanpfhcaaGreatDoorGaDk
import Derived.Laws.IdiomStrings
import Derived.Deep.Draws
namespace Go.Proofs.YtdkgieaanpfhcaaGreatDoor.Dk
open Go.RowKit Go.Maps

theorem info5 : (Tryz.prog.info? 5).map (fun i => (i.zero, i.size, i.bytes)) = some (some (.int .u8 0), 1, 1) := by kernel_rfl
/-- 'append(b, s...)' to a file's bytes: what it gives, and where it lies -/
theorem run_append_file {w : World} (ty : TypeId) (v : Value) (n : Nat) (xs : List Value) (hown : w.ownsRow 0 5 1 v n xs) (s : ByteArray) (hb : n + s.size ≤ 140737488355328) :
    ∃ v' w', (Builtin.append_ #[88, 9] ty #[v, .string s]).run Tryz.prog w = .ok v' w' ∧ w'.ownsRow 0 5 1 v' (n + s.size) (xs ++ Lib.strCells s) ∧ w.grownBy w' v.ownBlock ∧
      (v'.ownBlock = v.ownBlock ∨ v'.ownBlock = some w.heap.size) := by
  obtain ⟨i0, hi, hz0, hz1, hz2⟩ := info_parts info5
  have h63 : n + s.size ≤ maxLen := by unfold maxLen; omega
  obtain ⟨v', w', hr, h2, h3, _⟩ := Lib.run_append_own_string (P := Tryz.prog) w 0 88 9 ty 5 i0 Tryz.underlying88 Tryz.underlying9 hi hz0 hz1 hz2 v n xs hown s h63 hb (Nat.zero_le _)
  refine ⟨v', w', hr, h2, h3, ?_⟩
  have hxl : xs.length = n := by simpa using hown.1
  rcases hown.2 with ⟨rfl, rfl⟩ | ⟨g, cap, cur, rfl, _, hg, hnc, hcm, hcs, htake⟩
  · by_cases hm : s.size = 0
    · rcases h2.2 with ⟨h, _⟩ | ⟨g', cap', cur', h, _, hg', hn', _, hcs', _⟩
      · subst h; exact Or.inl rfl
      · have hf := Lib.run_firstCells_string (P := Tryz.prog) w 1 s
        rw [hm] at hf
        have hr0 : (Builtin.append_ #[88, 9] ty #[.slice none 0 0, .string s]).run Tryz.prog w = .ok (.slice none 0 0) w := by
          simp [Builtin.append_, run_underlying Tryz.underlying88, run_underlying Tryz.underlying9, sizeOf, typeInfo, hi, hz1, Builtin.lenOf, hm, hf]
        rw [hr0] at hr
        injection hr with e1 _
        rw [← e1]; exact Or.inl rfl
    · have hr0 := run_append_nil_string (P := Tryz.prog) w 88 9 ty 5 i0 (.int .u8 0) Tryz.underlying88 Tryz.underlying9 hi hz0 s (by omega) (by unfold maxLen at h63; omega) (by rw [hz2]; omega)
      rw [hr0] at hr
      injection hr with e1 _
      rw [← e1]; exact Or.inr rfl
  · by_cases hroom : n + s.size ≤ cap
    · have hr0 := Lib.run_append_room_string (P := Tryz.prog) w 88 9 ty 5 i0 Tryz.underlying88 Tryz.underlying9 hi hz1 g n cap cur hg s hroom (by rw [hcs]; omega)
      rw [hr0] at hr
      injection hr with e1 _
      rw [← e1]; exact Or.inl rfl
    · have holds : ∀ j u, xs[j]? = some u → w.cell? ((⟨g, 0, none⟩ : Addr).add j) = some u := hown.cells (g := g) rfl
      have hr0 := Lib.run_append_grow_string (P := Tryz.prog) w 88 9 ty 5 i0 (.int .u8 0) Tryz.underlying88 Tryz.underlying9 hi hz0 ⟨g, 0, none⟩ n cap xs (by rw [hz1]; simpa using hxl) holds s (by omega) (by unfold maxLen at h63; omega) (by rw [hz2]; exact growslice_fits (by omega) (by omega))
      rw [hr0] at hr
      injection hr with e1 _
      rw [← e1]; exact Or.inr rfl
theorem wpList_append_file {w : World} {ops : Array Oper} {rest : List Oper} {o : Oper} {a : Act} {Q : Exit → Act → World → Prop} (hgd : o.guard = none) (sl x : Operand)
    (ho : o.op = .call { callee := .builtin .append, args := #[sl, x], argTypes := #[88, 9] }) (v : Value) (n : Nat) (xs : List Value) (hs : a.eval sl = v) (hown : w.ownsRow 0 5 1 v n xs) (s : ByteArray) (hx : a.eval x = .string s) (hb : n + s.size ≤ 140737488355328)
    (h : ∀ v' w', w'.ownsRow 0 5 1 v' (n + s.size) (xs ++ Lib.strCells s) → w.grownBy w' v.ownBlock → (v'.ownBlock = v.ownBlock ∨ v'.ownBlock = some w.heap.size) → wpList Tryz.prog ops Q rest (a.put o.dst v') w') : wpList Tryz.prog ops Q (o :: rest) a w := by
  refine wpList_plain hgd fun K hK => ?_
  obtain ⟨v', w', hr, h2, h3, h4⟩ := run_append_file o.type v n xs hown s hb
  unfold Oper.wp execOp
  simp only [ho, resolve, invoke, builtin, Sem.run_bind, Sem.run_pure, Result.andThen_ok, List.map_toArray, List.map_cons, List.map_nil, hs, hx, hr]
  exact hK _ _ (h v' w' h2 h3 h4)

/-- one file's entry turned, all else as it was -/
theorem file_end {w1 w3 : World} {d m : Nat} {A B : List Ent} {e e' : Ent} {room steps fuse fault : Int} {down : Bool} (h : DiskAt w1 d m (A ++ e :: B) room steps fuse fault down)
    (hon : Only e.foot w1 w3) (hF : FileAt w3 e') (hn : e'.name = e.name) (hbk : e'.blk = e.blk) (hv : e'.v.ownBlock = e.v.ownBlock ∨ ∃ g, e'.v.ownBlock = some g ∧ w1.heap.size ≤ g) (hvol : usedL (A ++ e' :: B) ≤ 16777216) :
    DiskAt w3 d m (A ++ e' :: B) room steps fuse fault down ∧ Moves w1 (feet d m (A ++ e :: B)) w3 (feet d m (A ++ e' :: B)) := by
  have hlt := h.lt
  have hap := h.apart
  have heL : e ∈ A ++ e :: B := by simp
  have hfoot : ∀ k ∈ e'.foot, k ∈ e.foot ∨ w1.heap.size ≤ k := by
    intro k hk
    unfold Ent.foot at hk ⊢
    rw [hbk] at hk
    rcases List.mem_cons.1 hk with rfl | hk
    · exact Or.inl (by simp)
    · rcases hv with hv | ⟨g, hv, hg⟩
      · rw [hv] at hk; exact Or.inl (by simp [hk])
      · rw [hv] at hk
        have : k = g := by simpa using hk
        exact Or.inr (by omega)
  have hfd : (feet d m (A ++ e :: B)) = (d :: m :: A.flatMap Ent.foot) ++ (e.foot ++ B.flatMap Ent.foot) := by simp [feet]
  have hfd' : (feet d m (A ++ e' :: B)) = (d :: m :: A.flatMap Ent.foot) ++ (e'.foot ++ B.flatMap Ent.foot) := by simp [feet]
  rw [hfd, List.nodup_append] at hap
  obtain ⟨n1, n23, n13⟩ := hap
  rw [List.nodup_append] at n23
  obtain ⟨n2, n3, n23⟩ := n23
  have out1 : ∀ k ∈ (d :: m :: A.flatMap Ent.foot), k ∉ e.foot := fun k hk hk' => n13 k hk k (List.mem_append_left _ hk') rfl
  have out2 : ∀ k ∈ B.flatMap Ent.foot, k ∉ e.foot := fun k hk hk' => n23 k hk' k hk rfl
  have lt1 : ∀ k ∈ (d :: m :: A.flatMap Ent.foot), k < w1.heap.size := fun k hk => hlt k (by rw [hfd]; exact List.mem_append_left _ hk)
  have lt3 : ∀ k ∈ B.flatMap Ent.foot, k < w1.heap.size := fun k hk => hlt k (by rw [hfd]; exact List.mem_append_right _ (List.mem_append_right _ hk))
  have keep1 : ∀ k ∈ (d :: m :: A.flatMap Ent.foot), w3.heap[k]? = w1.heap[k]? := fun k hk => hon.block k (lt1 k hk) (out1 k hk)
  have keep3 : ∀ k ∈ B.flatMap Ent.foot, w3.heap[k]? = w1.heap[k]? := fun k hk => hon.block k (lt3 k hk) (out2 k hk)
  obtain ⟨D, ho, hM⟩ := h.map
  have hlen : (A ++ e' :: B).length = (A ++ e :: B).length := by simp
  have hmem : ∀ x, x ∈ A ++ e' :: B → x ∈ A ∨ x = e' ∨ x ∈ B := fun x hx => by simpa using hx
  have hnodup' : e'.foot.Nodup := by
    unfold Ent.foot at n2 ⊢
    rw [hbk]
    rcases hv with hv | ⟨g, hv, hg⟩
    · rw [hv]; exact n2
    · rw [hv]
      have := (h.files e heL).lt e.blk (by simp [Ent.foot])
      simp
      omega
  have hfk : ∀ k ∈ e'.foot, (∀ j ∈ (d :: m :: A.flatMap Ent.foot), j ≠ k) ∧ (∀ j ∈ B.flatMap Ent.foot, j ≠ k) := by
    intro k hk
    rcases hfoot k hk with h1 | h1
    · exact ⟨fun j hj e0 => out1 j hj (e0 ▸ h1), fun j hj e0 => out2 j hj (e0 ▸ h1)⟩
    · exact ⟨fun j hj e0 => by have := lt1 j hj; omega, fun j hj e0 => by have := lt3 j hj; omega⟩
  refine ⟨⟨(keep1 d (by simp)).trans h.disk, ⟨D, ?_, ⟨fun x => ?_, fun x hx => ?_, ?_⟩⟩, fun x hx => ?_, ?_, fun x hx => ?_, ?_, ?_, hvol⟩, ⟨⟨hon.os, hon.tape, hon.output, hon.size, fun k hk hn' => hon.block k hk (fun hk' => hn' ?_)⟩, fun k hk => ?_⟩⟩
  · rw [hlen]; exact own_kept ho (keep1 m (by simp))
  · rw [hM.has x]
    constructor
    · rintro ⟨y, hy, hyx⟩
      have : y ∈ A ∨ y = e ∨ y ∈ B := by simpa using hy
      rcases this with hy | rfl | hy
      · exact ⟨y, by simp [hy], hyx⟩
      · exact ⟨e', by simp, by rw [hn]; exact hyx⟩
      · exact ⟨y, by simp [hy], hyx⟩
    · rintro ⟨y, hy, hyx⟩
      rcases hmem y hy with hy | rfl | hy
      · exact ⟨y, by simp [hy], hyx⟩
      · exact ⟨e, by simp, by rw [← hn]; exact hyx⟩
      · exact ⟨y, by simp [hy], hyx⟩
  · rcases hmem x hx with hx | rfl | hx
    · exact hM.here x (by simp [hx])
    · rw [hn, hbk]; exact hM.here e heL
    · exact hM.here x (by simp [hx])
  · rw [hM.size, hlen]
  · rcases hmem x hx with hx | rfl | hx
    · exact (h.files x (by simp [hx])).kept (fun k hk => keep1 k (List.mem_cons_of_mem _ (List.mem_cons_of_mem _ (List.mem_flatMap.2 ⟨x, hx, hk⟩))))
    · exact hF
    · exact (h.files x (by simp [hx])).kept (fun k hk => keep3 k (List.mem_flatMap.2 ⟨x, hx, hk⟩))
  · have hp := h.names
    rw [List.pairwise_append, List.pairwise_cons] at hp ⊢
    obtain ⟨p1, ⟨p2, p3⟩, p4⟩ := hp
    refine ⟨p1, ⟨fun b hb => by rw [hn]; exact p2 b hb, p3⟩, fun a ha b hb => ?_⟩
    rcases List.mem_cons.1 hb with rfl | hb
    · rw [hn]; exact p4 a ha e (by simp)
    · exact p4 a ha b (by simp [hb])
  · rcases hmem x hx with hx | rfl | hx
    · exact h.short x (by simp [hx])
    · rw [hn]; exact h.short e heL
    · exact h.short x (by simp [hx])
  · rw [hfd', List.nodup_append]
    refine ⟨n1, ?_, fun a ha b hb => ?_⟩
    · rw [List.nodup_append]
      exact ⟨hnodup', n3, fun a ha b hb e0 => (hfk a ha).2 b hb e0.symm⟩
    · rcases List.mem_append.1 hb with hb | hb
      · exact (hfk b hb).1 a ha
      · exact n13 a ha b (List.mem_append_right _ hb)
  · rw [hlen]; exact h.few
  · rw [hfd]; exact List.mem_append_right _ (List.mem_append_left _ hk')
  · rw [hfd'] at hk
    rw [hfd]
    rcases List.mem_append.1 hk with hk | hk
    · exact Or.inl (List.mem_append_left _ hk)
    · rcases List.mem_append.1 hk with hk | hk
      · rcases hfoot k hk with h1 | h1
        · exact Or.inl (List.mem_append_right _ (List.mem_append_left _ h1))
        · exact Or.inr h1
      · exact Or.inl (List.mem_append_right _ (List.mem_append_right _ hk))
end Go.Proofs.YtdkgieaanpfhcaaGreatDoor.Dk
namespace Go.Proofs.YtdkgieaanpfhcaaGreatDoor.Dk
open Go.RowKit Go.Maps

theorem only_grown_none {fp : List Nat} {w w' : World} {v : Option Nat} (h : w.grownBy w' v) (hv : ∀ g, v = some g → g ∈ fp) : Only fp w w' := Only.of_grown h hv
theorem usedL_mid (A B : List Ent) (e : Ent) : usedL (A ++ e :: B) = usedL A + e.bytes.length + usedL B := by simp [usedL]; omega
/-- a step that has no error of its own is done -/
structure CanStep (steps fuse fault : Int) : Prop where
  hf : (fuse == 0) = false
  ha : (fault == 0) = false
  b1 : -1 ≤ fuse
  b2 : -1 ≤ fault
  b3 : fuse ≤ 9223372036854775807
  b4 : fault ≤ 9223372036854775807
  b5 : 0 ≤ steps
  b6 : steps < 9223372036854775807
theorem step_can {w : World} {d m : Nat} {room steps fuse fault : Int} (hc : CanStep steps fuse fault) (h : DiskIs w d m room steps fuse fault false) :
    Calls Tryz.prog 68 #[.pointer (some ⟨d, 0, none⟩)] w fun e w' => e = .returned (.int .i64 0) ∧ DiskIs w' d m room (steps + 1) (tick fuse) (tick fault) false ∧ w.grownBy w' (some d) :=
  step_ok hc.hf hc.ha hc.b1 hc.b2 hc.b3 hc.b4 hc.b5 hc.b6 h
theorem DiskAt.drew {w : World} {d m : Nat} {L : List Ent} {room steps fuse fault : Int} {down : Bool} (h : DiskAt w d m L room steps fuse fault down) : DiskAt w.drew d m L room steps fuse fault down := h.below (Below.refl _ _).drew
theorem row_slice {w : World} {base ty size n : Nat} {v : Value} {xs : List Value} (h : w.ownsRow base ty size v n xs) : ∃ a c, v = .slice a n c := by
  rcases h.2 with ⟨h1, h2⟩ | ⟨g, cap, cur, h1, _⟩
  · exact ⟨none, 0, by rw [h1, h2]⟩
  · exact ⟨_, _, h1⟩
theorem foot_ne {w : World} {d m : Nat} {A B : List Ent} {e : Ent} {room steps fuse fault : Int} {down : Bool} (h : DiskAt w d m (A ++ e :: B) room steps fuse fault down) : e.v.ownBlock ≠ some e.blk := by
  intro he
  have hap := h.apart
  have : (feet d m (A ++ e :: B)) = (d :: m :: A.flatMap Ent.foot) ++ (e.foot ++ B.flatMap Ent.foot) := by simp [feet]
  rw [this, List.nodup_append] at hap
  have h2 := (List.nodup_append.1 hap.2.1).1
  unfold Ent.foot at h2
  rw [he] at h2
  simp at h2
theorem after_append {w w' : World} {d m : Nat} {A B : List Ent} {e : Ent} {room steps fuse fault : Int} {down : Bool} (h : DiskAt w d m (A ++ e :: B) room steps fuse fault down) (hg : w.grownBy w' e.v.ownBlock) :
    w'.cell? ⟨e.blk, 0, none⟩ = some e.v ∧ w'.frozen? ⟨e.blk, 0, none⟩ = false := by
  have hF := h.files e (by simp)
  have hk : w'.heap[e.blk]? = some (.cells (fileCells e) 90 (0, 0)) := (hg.block e.blk (hF.lt e.blk (by simp [Ent.foot])) (fun e0 => foot_ne h e0.symm)).trans hF.cells
  exact ⟨cell_in hk 0 _ rfl, free_in hk 0⟩
theorem append_end {w3 w4 : World} {d m : Nat} {A B : List Ent} {e : Ent} {room steps fuse fault : Int} {down : Bool} (h : DiskAt w3 d m (A ++ e :: B) room steps fuse fault down) (t : ByteArray) {v' : Value}
    (hrow : w4.ownsRow 0 5 1 v' (e.bytes.length + t.size) (e.bytes.map u8v ++ Lib.strCells t)) (hg : w3.grownBy w4 e.v.ownBlock) (hwh : v'.ownBlock = e.v.ownBlock ∨ v'.ownBlock = some w3.heap.size)
    (hvol : usedL (A ++ ⟨e.name, e.bytes ++ t.data.toList, e.sure, e.blk, v'⟩ :: B) ≤ 16777216) :
    DiskAt (w4.setCell ⟨e.blk, 0, none⟩ v') d m (A ++ ⟨e.name, e.bytes ++ t.data.toList, e.sure, e.blk, v'⟩ :: B) room steps fuse fault down ∧
      Moves w3 (feet d m (A ++ e :: B)) (w4.setCell ⟨e.blk, 0, none⟩ v') (feet d m (A ++ ⟨e.name, e.bytes ++ t.data.toList, e.sure, e.blk, v'⟩ :: B)) := by
  have hF := h.files e (by simp)
  have hlt : e.blk < w3.heap.size := hF.lt e.blk (by simp [Ent.foot])
  have hk : w4.heap[e.blk]? = some (.cells (fileCells e) 90 (0, 0)) := (hg.block e.blk hlt (fun e0 => foot_ne h e0.symm)).trans hF.cells
  have hl : t.data.toList.length = t.size := by rw [Array.length_toList]; rfl
  have hvb : v'.ownBlock ≠ some e.blk := by
    rcases hwh with hw | hw
    · rw [hw]; exact foot_ne h
    · rw [hw]; intro e0; injection e0 with e0; omega
  refine file_end h (e' := ⟨e.name, e.bytes ++ t.data.toList, e.sure, e.blk, v'⟩) ?_ ⟨?_, ?_, ?_⟩ rfl rfl ?_ hvol
  · refine (Only.of_grown hg (fun k e0 => by simp [Ent.foot, e0])).trans (Only.of_grown (grown_set _ _ _ _) (fun k e0 => ?_))
    injection e0 with e0
    subst e0
    simp [Ent.foot]
  · exact heap_set hk 0 v'
  · have e1 : (e.bytes ++ t.data.toList).length = e.bytes.length + t.size := by rw [List.length_append, hl]
    have e2 : (e.bytes ++ t.data.toList).map u8v = e.bytes.map u8v ++ Lib.strCells t := by rw [List.map_append]; rfl
    show World.ownsRow _ 0 5 1 v' (e.bytes ++ t.data.toList).length ((e.bytes ++ t.data.toList).map u8v)
    rw [e1, e2]
    exact ownsRow_kept hrow (fun g hgv => Below.heap_setCell w4 ⟨e.blk, 0, none⟩ v' g (fun e0 => hvb (by rw [hgv, e0])))
  · have := hF.sure
    show e.sure ≤ (e.bytes ++ t.data.toList).length
    rw [List.length_append]; omega
  · rcases hwh with hw | hw
    · exact Or.inl hw
    · exact Or.inr ⟨_, hw, Nat.le_refl _⟩
set_option maxRecDepth 100000 in
theorem append_ok {w : World} {d m : Nat} {A B : List Ent} {e : Ent} {room steps fuse fault : Int} (h : DiskAt w d m (A ++ e :: B) room steps fuse fault false) (s t : ByteArray) (hs : Hid (s.size ≤ maxLen)) (ht : t.size ≤ 9223372036854775807)
    (hne : e.name = s.data.toList) (hr0 : room ≤ 16777216) (hroom : ((usedL (A ++ e :: B) : Nat) : Int) + (t.size : Int) ≤ room)
    (hcs : CanStep steps fuse fault) :
    Calls Tryz.prog 80 #[.pointer (some ⟨d, 0, none⟩), .string s, .string t] w fun r w' => r = .returned (.int .i64 0) ∧ ∃ v', DiskAt w' d m (A ++ ⟨e.name, e.bytes ++ t.data.toList, e.sure, e.blk, v'⟩ :: B) room (steps + 1) (tick fuse) (tick fault) false ∧
      Moves w (feet d m (A ++ e :: B)) w' (feet d m (A ++ ⟨e.name, e.bytes ++ t.data.toList, e.sure, e.blk, v'⟩ :: B)) := by
  obtain ⟨D, ho, hM⟩ := h.map
  have hl := look_hit ho hM hs.out (show e ∈ A ++ e :: B by simp) hne
  have c0 := disk0 h.disk
  have c1 := disk1 h.disk
  have H := Lib.hid h
  clear h ho hM
  go_enter Tryz.func80, Tryz.ntmps80
  go_wp2_with (first
    | (go_at_call 39; with_reducible refine (powered_any H.out.disk).mono ?_; rintro r w1 ⟨rfl, rfl⟩))
  have hu := H.out.vol
  have hdl : d < w.heap.size := H.out.lt d (by simp [feet])
  obtain ⟨U, hU⟩ : ∃ U, usedL (A ++ e :: B) = U := ⟨_, rfl⟩
  have hUsed : ∀ {W : World}, DiskAt W d m (A ++ e :: B) room steps fuse fault false → Calls Tryz.prog 112 #[.pointer (some ⟨d, 0, none⟩)] W fun r w' => r = .returned (.int .i64 ((U : Nat) : Int)) ∧ Below W.heap.size W w' := by
    intro W hW; rw [← hU]; exact used_any hW
  rw [hU] at hu hroom
  have HUs := Lib.hid (And.intro hU @hUsed)
  clear hU hUsed
  have hw1 : IntKind.i64.wrap (room - (U : Int)) = room - (U : Int) := IntWalk.i64_in _ (by omega)
  go_region_held3 (fun wx => wx.cell? ⟨d, 1, none⟩ = some (.int .i64 room)) (first | go_keep | (rw [hb2.cell (p := ⟨d, 1, none⟩) (by simp; omega)]; go_keep))
    (first
      | (go_at_call 112; refine (HUs.out.2 H.out.drew).mono ?_; rintro r w2 ⟨rfl, hb2⟩))
  clear hw1
  have hle : ¬ (room - (U : Int) < (t.size : Int)) := by omega
  have HD2 := Lib.hid (H.out.below ((Below.refl _ w).drew.trans hb2))
  go_wp2_with (first
    | (go_at_call 68
       with_reducible refine (step_can hcs HD2.out.disk).mono ?_
       rintro r w3 ⟨rfl, hd3, hg3⟩
       have HD3 := Lib.hid (HD2.out.step hd3 hg3)
       have f0 := file0 (HD3.out.1.files e (by simp))
       clear hd3 hg3)
    | (at_builtin
       refine wpList_append_file rfl _ _ rfl e.v e.bytes.length _ rfl (HD3.out.1.files e (by simp)).row t rfl (by have := usedL_mid A B e; have := HUs.out.1; omega) ?_
       intro v' w4 hrow4 hg4 hwh
       obtain ⟨va, vc, hv4⟩ := row_slice hrow4
       have hx4 := after_append HD3.out.1 hg4
       obtain ⟨c4, fz4⟩ := hx4
       have HX := Lib.hid (And.intro hrow4 (And.intro hg4 hwh))
       clear hrow4 hg4 hwh
       subst hv4))
  go_ret
  refine ⟨rfl, .slice va (e.bytes.length + t.size) vc, ?_⟩
  obtain ⟨e1, e2⟩ := append_end HD3.out.1 t HX.out.1 HX.out.2.1 HX.out.2.2 (by have h1 := HUs.out.1; rw [usedL_mid] at h1 ⊢; simp; omega)
  exact ⟨e1, (Moves.trans ⟨Only.of_below ((Below.refl _ w).drew.trans hb2), fun _ hk => Or.inl hk⟩ HD3.out.2).trans e2⟩
end Go.Proofs.YtdkgieaanpfhcaaGreatDoor.Dk
namespace Go.Proofs.YtdkgieaanpfhcaaGreatDoor.Dk
open Go.RowKit Go.Maps

theorem run_read {w : World} {e : Ent} (h : FileAt w e) : (convert 88 9 e.v).run Tryz.prog w = .ok (.string ⟨e.bytes.toArray⟩) w := by
  rcases h.row.2 with ⟨h1, h2⟩ | ⟨g, cap, cur, h1, _, hg, hn, _, hcs, ht⟩
  · have : e.bytes = [] := List.eq_nil_of_length_eq_zero h2
    rw [h1, this, run_convert_bytes_string w 88 9 5 _ _ _ Tryz.underlying88 Tryz.underlying5 Tryz.underlying9]
    simp [Conv.bytesToString]
    rfl
  · rw [h1]
    refine run_convert_bytes_back (P := Tryz.prog) w 88 9 5 ⟨g, 0, none⟩ cap e.bytes Tryz.underlying88 Tryz.underlying5 Tryz.underlying9 (fun j hj => ?_)
    have hc := h.row.cells (g := g) (by rw [h1]; rfl) j (u8v e.bytes[j]) (by simp [hj])
    exact hc
theorem read_ok {w : World} {d m : Nat} {L : List Ent} {room steps fuse fault : Int} (h : DiskAt w d m L room steps fuse fault false) (s : ByteArray) (hs : Hid (s.size ≤ maxLen)) {e : Ent} (he : e ∈ L) (hne : e.name = s.data.toList) :
    Calls Tryz.prog 20 #[.pointer (some ⟨d, 0, none⟩), .string s] w fun r w' => r = .returned (.tuple #[.string ⟨e.bytes.toArray⟩, .int .i64 0]) ∧ w = w' := by
  obtain ⟨D, ho, hM⟩ := h.map
  have hl := look_hit ho hM hs.out he hne
  have c0 := disk0 h.disk
  have hF := h.files e he
  have hcv := run_read hF
  have f0 := file0 hF
  obtain ⟨va, vc, hv⟩ := file_v hF
  have H := Lib.hid h
  clear h ho hM he hne hF
  rw [hv] at f0 hcv
  clear hv
  go_enter Tryz.func20, Tryz.ntmps20
  go_wp2_with (first
    | (go_at_call 39; with_reducible refine (powered_any H.out.disk).mono ?_; rintro e w1 ⟨rfl, rfl⟩))
  go_ret2
  exact ⟨rfl, rfl⟩
theorem read_nil (s : ByteArray) (w : World) : Calls Tryz.prog 20 #[.pointer none, .string s] w fun r w' => r = .returned (.tuple #[.string ⟨#[]⟩, .int .i64 1]) ∧ w = w' := by
  go_enter Tryz.func20, Tryz.ntmps20
  go_wp2_with (first
    | (go_at_call 39; with_reducible refine (powered_nil _).mono ?_; rintro e w1 ⟨rfl, rfl⟩))
  go_ret2
  exact ⟨rfl, rfl⟩
theorem floose_any {w : World} {e : Ent} (h : FileAt w e) (hb : e.bytes.length ≤ 16777216) :
    Calls Tryz.prog 41 #[.pointer (some ⟨e.blk, 0, none⟩)] w fun r w' => r = .returned (.int .i64 ((e.bytes.length - e.sure : Nat) : Int)) ∧ ∃ n, w' = w.drewN n := by
  have f0 := file0 h
  have f1 := file1 h
  have hsu := h.sure
  obtain ⟨va, vc, hv⟩ := file_v h
  rw [hv] at f0
  clear h hv
  have hw : IntKind.i64.wrap ((e.bytes.length : Int) - (e.sure : Int)) = (e.bytes.length : Int) - (e.sure : Int) := IntWalk.i64_in _ (by omega)
  go_enter Tryz.func41, Tryz.ntmps41
  go_wp2
  go_quiet (fail)
  clear hw
  go_wp2
  go_ret
  refine ⟨congrArg (fun n => Ending.returned (.int .i64 n)) (?_ : (e.bytes.length : Int) - (e.sure : Int) = _), _, rfl⟩
  omega
theorem usedL_mem {L : List Ent} {e : Ent} (h : e ∈ L) : e.bytes.length ≤ usedL L := by
  obtain ⟨A, B, rfl⟩ := List.append_of_mem h
  rw [usedL_mid]; omega
set_option maxRecDepth 100000 in
theorem sync_ok {w : World} {d m : Nat} {A B : List Ent} {e : Ent} {room steps fuse fault : Int} (h : DiskAt w d m (A ++ e :: B) room steps fuse fault false) (s : ByteArray) (hs : Hid (s.size ≤ maxLen)) (hne : e.name = s.data.toList) (hcs : CanStep steps fuse fault) :
    Calls Tryz.prog 81 #[.pointer (some ⟨d, 0, none⟩), .string s] w fun r w' => r = .returned (.int .i64 0) ∧ DiskAt w' d m (A ++ ⟨e.name, e.bytes, e.bytes.length, e.blk, e.v⟩ :: B) room (steps + 1) (tick fuse) (tick fault) false ∧
      Moves w (feet d m (A ++ e :: B)) w' (feet d m (A ++ ⟨e.name, e.bytes, e.bytes.length, e.blk, e.v⟩ :: B)) := by
  obtain ⟨D, ho, hM⟩ := h.map
  have hl := look_hit ho hM hs.out (show e ∈ A ++ e :: B by simp) hne
  have c0 := disk0 h.disk
  obtain ⟨va, vc, hv⟩ := file_v (h.files e (by simp))
  have hlen : e.bytes.length ≤ 16777216 := Nat.le_trans (usedL_mem (by simp)) h.vol
  have H := Lib.hid h
  have HV := Lib.hid hv
  clear h ho hM hv
  go_enter Tryz.func81, Tryz.ntmps81
  go_wp2_with (first
    | (go_at_call 39; with_reducible refine (powered_any H.out.disk).mono ?_; rintro r w1 ⟨rfl, rfl⟩)
    | (go_at_call 68
       with_reducible refine (step_can hcs H.out.disk).mono ?_
       rintro r w3 ⟨rfl, hd3, hg3⟩
       have HD3 := Lib.hid (H.out.step hd3 hg3)
       have f0 := file0 (HD3.out.1.files e (by simp))
       rw [HV.out] at f0
       have f1 := file1 (HD3.out.1.files e (by simp))
       have z1 := free_in (HD3.out.1.files e (by simp)).cells 1
       clear hd3 hg3))
  go_ret
  obtain ⟨e1, e2⟩ := file_end (e' := ⟨e.name, e.bytes, e.bytes.length, e.blk, e.v⟩) HD3.out.1 (w3 := w3.setCell ⟨e.blk, 1, none⟩ (.int .i64 (e.bytes.length : Int))) (Only.of_grown (grown_set _ _ _ _) (fun k e0 => by injection e0 with e0; subst e0; simp [Ent.foot]))
    ⟨heap_set (HD3.out.1.files e (by simp)).cells 1 _, ownsRow_kept (HD3.out.1.files e (by simp)).row (fun g hgv => Below.heap_setCell w3 ⟨e.blk, 1, none⟩ _ g (fun e0 => foot_ne HD3.out.1 (by rw [hgv, e0]))), Nat.le_refl _⟩ rfl rfl (Or.inl rfl)
    (by have h1 := HD3.out.1.vol; rw [usedL_mid] at h1 ⊢; exact h1)
  exact ⟨rfl, e1, HD3.out.2.trans e2⟩
end Go.Proofs.YtdkgieaanpfhcaaGreatDoor.Dk
