/-
  A file of a disk turned: the append to its bytes, and what stays. Conditions: as each theorem states.
-/
import Derived.Test.YtpeobjnamflibaaDkE
namespace Go.Proofs.Ytpeobjnamflibaa.Dk
open Go.RowKit Go.Maps

theorem info5 : (Try.prog.info? 5).map (fun i => (i.zero, i.size, i.bytes)) = some (some (.int .u8 0), 1, 1) := by kernel_rfl
/-- 'append(b, s...)' to a file's bytes: what it gives, and where it lies -/
theorem run_append_file {w : World} (ty : TypeId) (v : Value) (n : Nat) (xs : List Value) (hown : w.ownsRow 0 5 1 v n xs) (s : ByteArray) (hb : n + s.size ≤ 140737488355328) :
    ∃ v' w', (Builtin.append_ #[60, 9] ty #[v, .string s]).run Try.prog w = .ok v' w' ∧ w'.ownsRow 0 5 1 v' (n + s.size) (xs ++ Lib.strCells s) ∧ w.grownBy w' v.ownBlock ∧
      (v'.ownBlock = v.ownBlock ∨ v'.ownBlock = some w.heap.size) := by
  obtain ⟨i0, hi, hz0, hz1, hz2⟩ := info_parts info5
  have h63 : n + s.size ≤ maxLen := by unfold maxLen; omega
  obtain ⟨v', w', hr, h2, h3, _⟩ := Lib.run_append_own_string (P := Try.prog) w 0 60 9 ty 5 i0 Try.underlying60 Try.underlying9 hi hz0 hz1 hz2 v n xs hown s h63 hb (Nat.zero_le _)
  refine ⟨v', w', hr, h2, h3, ?_⟩
  have hxl : xs.length = n := by simpa using hown.1
  rcases hown.2 with ⟨rfl, rfl⟩ | ⟨g, cap, cur, rfl, _, hg, hnc, hcm, hcs, htake⟩
  · by_cases hm : s.size = 0
    · rcases h2.2 with ⟨h, _⟩ | ⟨g', cap', cur', h, _, hg', hn', _, hcs', _⟩
      · subst h; exact Or.inl rfl
      · have hf := Lib.run_firstCells_string (P := Try.prog) w 1 s
        rw [hm] at hf
        have hr0 : (Builtin.append_ #[60, 9] ty #[.slice none 0 0, .string s]).run Try.prog w = .ok (.slice none 0 0) w := by
          simp [Builtin.append_, run_underlying Try.underlying60, run_underlying Try.underlying9, sizeOf, typeInfo, hi, hz1, Builtin.lenOf, hm, hf]
        rw [hr0] at hr
        injection hr with e1 _
        rw [← e1]; exact Or.inl rfl
    · have hr0 := run_append_nil_string (P := Try.prog) w 60 9 ty 5 i0 (.int .u8 0) Try.underlying60 Try.underlying9 hi hz0 s (by omega) (by unfold maxLen at h63; omega) (by rw [hz2]; omega)
      rw [hr0] at hr
      injection hr with e1 _
      rw [← e1]; exact Or.inr rfl
  · by_cases hroom : n + s.size ≤ cap
    · have hr0 := Lib.run_append_room_string (P := Try.prog) w 60 9 ty 5 i0 Try.underlying60 Try.underlying9 hi hz1 g n cap cur hg s hroom (by rw [hcs]; omega)
      rw [hr0] at hr
      injection hr with e1 _
      rw [← e1]; exact Or.inl rfl
    · have holds : ∀ j u, xs[j]? = some u → w.cell? ((⟨g, 0, none⟩ : Addr).add j) = some u := hown.cells (g := g) rfl
      have hr0 := Lib.run_append_grow_string (P := Try.prog) w 60 9 ty 5 i0 (.int .u8 0) Try.underlying60 Try.underlying9 hi hz0 ⟨g, 0, none⟩ n cap xs (by rw [hz1]; simpa using hxl) holds s (by omega) (by unfold maxLen at h63; omega) (by rw [hz2]; exact growslice_fits (by omega) (by omega))
      rw [hr0] at hr
      injection hr with e1 _
      rw [← e1]; exact Or.inr rfl
theorem wpList_append_file {w : World} {ops : Array Oper} {rest : List Oper} {o : Oper} {a : Act} {Q : Exit → Act → World → Prop} (hgd : o.guard = none) (sl x : Operand)
    (ho : o.op = .call { callee := .builtin .append, args := #[sl, x], argTypes := #[60, 9] }) (v : Value) (n : Nat) (xs : List Value) (hs : a.eval sl = v) (hown : w.ownsRow 0 5 1 v n xs) (s : ByteArray) (hx : a.eval x = .string s) (hb : n + s.size ≤ 140737488355328)
    (h : ∀ v' w', w'.ownsRow 0 5 1 v' (n + s.size) (xs ++ Lib.strCells s) → w.grownBy w' v.ownBlock → (v'.ownBlock = v.ownBlock ∨ v'.ownBlock = some w.heap.size) → wpList Try.prog ops Q rest (a.put o.dst v') w') : wpList Try.prog ops Q (o :: rest) a w := by
  refine wpList_plain hgd fun K hK => ?_
  obtain ⟨v', w', hr, h2, h3, h4⟩ := run_append_file o.type v n xs hown s hb
  unfold Oper.wp execOp
  simp only [ho, resolve, invoke, builtin, Sem.run_bind, Sem.run_pure, Result.andThen_ok, List.map_toArray, List.map_cons, List.map_nil, hs, hx, hr]
  exact hK _ _ (h v' w' h2 h3 h4)

/-- one file's entry turned, all else as it was -/
theorem file_end {w1 w3 : World} {d m : Nat} {A B : List Ent} {e e' : Ent} {room steps fuse fault : Int} {down : Bool} (h : DiskAt w1 d m (A ++ e :: B) room steps fuse fault down)
    (hon : Only e.foot w1 w3) (hF : FileAt w3 e') (hn : e'.name = e.name) (hbk : e'.blk = e.blk) (hv : e'.v.ownBlock = e.v.ownBlock ∨ ∃ g, e'.v.ownBlock = some g ∧ w1.heap.size ≤ g) (hvol : usedL (A ++ e' :: B) ≤ 16777216) :
    DiskAt w3 d m (A ++ e' :: B) room steps fuse fault down ∧ Moves w1 (feet d m (A ++ e :: B)) w3 (feet d m (A ++ e' :: B)) := by
  have hlt := h.lt
  have hap := h.apart
  have heL : e ∈ A ++ e :: B := by simp
  have hfoot : ∀ k ∈ e'.foot, k ∈ e.foot ∨ w1.heap.size ≤ k := by
    intro k hk
    unfold Ent.foot at hk ⊢
    rw [hbk] at hk
    rcases List.mem_cons.1 hk with rfl | hk
    · exact Or.inl (by simp)
    · rcases hv with hv | ⟨g, hv, hg⟩
      · rw [hv] at hk; exact Or.inl (by simp [hk])
      · rw [hv] at hk
        have : k = g := by simpa using hk
        exact Or.inr (by omega)
  have hfd : (feet d m (A ++ e :: B)) = (d :: m :: A.flatMap Ent.foot) ++ (e.foot ++ B.flatMap Ent.foot) := by simp [feet]
  have hfd' : (feet d m (A ++ e' :: B)) = (d :: m :: A.flatMap Ent.foot) ++ (e'.foot ++ B.flatMap Ent.foot) := by simp [feet]
  rw [hfd, List.nodup_append] at hap
  obtain ⟨n1, n23, n13⟩ := hap
  rw [List.nodup_append] at n23
  obtain ⟨n2, n3, n23⟩ := n23
  have out1 : ∀ k ∈ (d :: m :: A.flatMap Ent.foot), k ∉ e.foot := fun k hk hk' => n13 k hk k (List.mem_append_left _ hk') rfl
  have out2 : ∀ k ∈ B.flatMap Ent.foot, k ∉ e.foot := fun k hk hk' => n23 k hk' k hk rfl
  have lt1 : ∀ k ∈ (d :: m :: A.flatMap Ent.foot), k < w1.heap.size := fun k hk => hlt k (by rw [hfd]; exact List.mem_append_left _ hk)
  have lt3 : ∀ k ∈ B.flatMap Ent.foot, k < w1.heap.size := fun k hk => hlt k (by rw [hfd]; exact List.mem_append_right _ (List.mem_append_right _ hk))
  have keep1 : ∀ k ∈ (d :: m :: A.flatMap Ent.foot), w3.heap[k]? = w1.heap[k]? := fun k hk => hon.block k (lt1 k hk) (out1 k hk)
  have keep3 : ∀ k ∈ B.flatMap Ent.foot, w3.heap[k]? = w1.heap[k]? := fun k hk => hon.block k (lt3 k hk) (out2 k hk)
  obtain ⟨D, ho, hM⟩ := h.map
  have hlen : (A ++ e' :: B).length = (A ++ e :: B).length := by simp
  have hmem : ∀ x, x ∈ A ++ e' :: B → x ∈ A ∨ x = e' ∨ x ∈ B := fun x hx => by simpa using hx
  have hnodup' : e'.foot.Nodup := by
    unfold Ent.foot at n2 ⊢
    rw [hbk]
    rcases hv with hv | ⟨g, hv, hg⟩
    · rw [hv]; exact n2
    · rw [hv]
      have := (h.files e heL).lt e.blk (by simp [Ent.foot])
      simp
      omega
  have hfk : ∀ k ∈ e'.foot, (∀ j ∈ (d :: m :: A.flatMap Ent.foot), j ≠ k) ∧ (∀ j ∈ B.flatMap Ent.foot, j ≠ k) := by
    intro k hk
    rcases hfoot k hk with h1 | h1
    · exact ⟨fun j hj e0 => out1 j hj (e0 ▸ h1), fun j hj e0 => out2 j hj (e0 ▸ h1)⟩
    · exact ⟨fun j hj e0 => by have := lt1 j hj; omega, fun j hj e0 => by have := lt3 j hj; omega⟩
  refine ⟨⟨(keep1 d (by simp)).trans h.disk, ⟨D, ?_, ⟨fun x => ?_, fun x hx => ?_, ?_⟩⟩, fun x hx => ?_, ?_, fun x hx => ?_, ?_, ?_, hvol⟩, ⟨⟨hon.os, hon.tape, hon.output, hon.size, fun k hk hn' => hon.block k hk (fun hk' => hn' ?_)⟩, fun k hk => ?_⟩⟩
  · rw [hlen]; exact own_kept ho (keep1 m (by simp))
  · rw [hM.has x]
    constructor
    · rintro ⟨y, hy, hyx⟩
      have : y ∈ A ∨ y = e ∨ y ∈ B := by simpa using hy
      rcases this with hy | rfl | hy
      · exact ⟨y, by simp [hy], hyx⟩
      · exact ⟨e', by simp, by rw [hn]; exact hyx⟩
      · exact ⟨y, by simp [hy], hyx⟩
    · rintro ⟨y, hy, hyx⟩
      rcases hmem y hy with hy | rfl | hy
      · exact ⟨y, by simp [hy], hyx⟩
      · exact ⟨e, by simp, by rw [← hn]; exact hyx⟩
      · exact ⟨y, by simp [hy], hyx⟩
  · rcases hmem x hx with hx | rfl | hx
    · exact hM.here x (by simp [hx])
    · rw [hn, hbk]; exact hM.here e heL
    · exact hM.here x (by simp [hx])
  · rw [hM.size, hlen]
  · rcases hmem x hx with hx | rfl | hx
    · exact (h.files x (by simp [hx])).kept (fun k hk => keep1 k (List.mem_cons_of_mem _ (List.mem_cons_of_mem _ (List.mem_flatMap.2 ⟨x, hx, hk⟩))))
    · exact hF
    · exact (h.files x (by simp [hx])).kept (fun k hk => keep3 k (List.mem_flatMap.2 ⟨x, hx, hk⟩))
  · have hp := h.names
    rw [List.pairwise_append, List.pairwise_cons] at hp ⊢
    obtain ⟨p1, ⟨p2, p3⟩, p4⟩ := hp
    refine ⟨p1, ⟨fun b hb => by rw [hn]; exact p2 b hb, p3⟩, fun a ha b hb => ?_⟩
    rcases List.mem_cons.1 hb with rfl | hb
    · rw [hn]; exact p4 a ha e (by simp)
    · exact p4 a ha b (by simp [hb])
  · rcases hmem x hx with hx | rfl | hx
    · exact h.short x (by simp [hx])
    · rw [hn]; exact h.short e heL
    · exact h.short x (by simp [hx])
  · rw [hfd', List.nodup_append]
    refine ⟨n1, ?_, fun a ha b hb => ?_⟩
    · rw [List.nodup_append]
      exact ⟨hnodup', n3, fun a ha b hb e0 => (hfk a ha).2 b hb e0.symm⟩
    · rcases List.mem_append.1 hb with hb | hb
      · exact (hfk b hb).1 a ha
      · exact n13 a ha b (List.mem_append_right _ hb)
  · rw [hlen]; exact h.few
  · rw [hfd]; exact List.mem_append_right _ (List.mem_append_left _ hk')
  · rw [hfd'] at hk
    rw [hfd]
    rcases List.mem_append.1 hk with hk | hk
    · exact Or.inl (List.mem_append_left _ hk)
    · rcases List.mem_append.1 hk with hk | hk
      · rcases hfoot k hk with h1 | h1
        · exact Or.inl (List.mem_append_right _ (List.mem_append_left _ h1))
        · exact Or.inr h1
      · exact Or.inl (List.mem_append_right _ (List.mem_append_right _ hk))
end Go.Proofs.Ytpeobjnamflibaa.Dk
