/-
  The document's own disk: a file is renamed. Conditions: as each theorem states.
-/
import Derived.Test.YtpeobjnamflibaaDkZa
namespace Go.Proofs.Ytpeobjnamflibaa.Dk
open Go.RowKit Go.Maps

section
variable {w : World} {q : Nat} {v : Value} {L A B : List RFile} {f : RFile} {room steps fuse fault : Int} {down : Bool}
theorem rb_cells {k : Nat} (h : RB q v L room steps fuse fault down k f w) : w.cell? ⟨k, 0, none⟩ = some (.string f.name) ∧ w.cell? ⟨k, 1, none⟩ = some (.string f.s) ∧ w.cell? ⟨k, 2, none⟩ = some (.int .i64 (f.sure : Int)) ∧ w.frozen? ⟨k, 0, none⟩ = false :=
  ⟨cell_in h.box 0 _ rfl, cell_in h.box 1 _ rfl, cell_in h.box 2 _ rfl, free_in h.box 0⟩
theorem moves_set {fp fp' : List Nat} {w' : World} {k j : Nat} {x : Value} (h : Moves w fp w' fp') (hk : w.heap.size ≤ k) : Moves w fp (w'.setCell ⟨k, j, none⟩ x) fp' := by
  have hg := grown_set w' k j x
  refine ⟨⟨hg.os.trans h.only.os, hg.tape.trans h.only.tape, hg.output.trans h.only.output, Nat.le_trans h.only.size hg.size, fun i hi hn => ?_⟩, h.fresh⟩
  exact (hg.block i (Nat.lt_of_lt_of_le hi h.only.size) (fun e => by injection e with e; omega)).trans (h.only.block i hi hn)
theorem moves_drew {fp fp' : List Nat} {w' : World} (h : Moves w fp w' fp') : Moves w fp w'.drew fp' := ⟨⟨h.only.os, h.only.tape, h.only.output, h.only.size, h.only.block⟩, h.fresh⟩
theorem one_file : ∀ x ∈ RFile.cells f, x.oneCell' = true := by intro x hx; simp [RFile.cells] at hx; rcases hx with rfl | rfl | rfl <;> rfl
/-- what is known behind the append -/
structure Put (w : World) (q : Nat) (v : Value) (L : List RFile) (f : RFile) (room steps fuse fault : Int) (down : Bool) (v' : Value) (w4 : World) : Prop where
  ref : RefIs w4 q v room steps fuse fault down
  own : w4.ownsRow 0 69 3 v' (L.length + 1) (L.flatMap RFile.cells ++ RFile.cells f)
  only : Only (rfeet q v) w w4
  from_ : ∀ g, v'.ownBlock = some g → v.ownBlock = some g ∨ w.heap.size ≤ g
theorem rename_row {o : Obj} {g cap : Nat} {w4 : World} (h : RefAt w q v L room steps fuse fault down) (hown : w4.ownsRow 0 69 3 (.slice (some ⟨g, 0, none⟩) (L.length + 1) cap) (L.length + 1) (L.flatMap RFile.cells ++ RFile.cells f))
    (hg : (w.alloc o).drew.grownBy w4 v.ownBlock) (hat : v.ownBlock = some g ∨ g = w.heap.size + 1) : Put w q v L f room steps fuse fault down (.slice (some ⟨g, 0, none⟩) (L.length + 1) cap) w4 := by
  have hq := h.lt q (by simp [rfeet])
  have hb : Below w.heap.size w (w.alloc o).drew := ((Below.refl _ w).alloc (Nat.le_refl _) _).drew
  refine ⟨?_, hown, (Only.of_below hb).trans (Only.of_grown hg (fun k e => by simp [rfeet, ← e])), fun g' hg' => ?_⟩
  · exact (hg.block q (by have := hb.size; omega) (fun e => h.apart e.symm)).trans ((hb.block q hq).trans h.ref)
  · have e : g = g' := by simpa [Value.ownBlock] using hg'
    subst e
    rcases hat with h1 | h1
    · exact Or.inl h1
    · exact Or.inr (by omega)
theorem rename_put {v' : Value} {w4 : World} (h : RefAt w q v L room steps fuse fault down) (p : Put w q v L f room steps fuse fault down v' w4) (hl : L.length < 200) (hs : f.sure ≤ f.s.size) (hv : usedR (L ++ [f]) ≤ 16777216) :
    RefAt (w4.setCell ⟨q, 0, none⟩ v') q v' (L ++ [f]) room steps fuse fault down ∧ Moves w (rfeet q v) (w4.setCell ⟨q, 0, none⟩ v') (rfeet q v') :=
  ref_put (L' := L ++ [f]) h p.ref p.only (by rw [List.flatMap_append, List.length_append]; simpa using p.own) p.from_ (by simp; omega) (fun x hx => by
    rcases List.mem_append.1 hx with hx | hx
    · exact h.sure x hx
    · have : x = f := by simpa using hx
      subst this; exact hs) hv
theorem without_len {A B : List RFile} {f : RFile} {s : ByteArray} : (without (without (A ++ f :: B) f.name) s).length < (A ++ f :: B).length := by
  have h1 := without_le (without (A ++ f :: B) f.name) s
  have h2 : (without (A ++ f :: B) f.name).length ≤ A.length + B.length := by
    unfold without
    rw [List.filter_append, List.length_append, List.filter_cons, if_neg (by simp)]
    have := List.length_filter_le (fun x : RFile => decide (x.name ≠ f.name)) A
    have := List.length_filter_le (fun x : RFile => decide (x.name ≠ f.name)) B
    omega
  simp; omega
theorem without_vol {A B : List RFile} {f g : RFile} {s : ByteArray} (hg : g.s = f.s) : usedR (without (without (A ++ f :: B) f.name) s ++ [g]) ≤ usedR (A ++ f :: B) := by
  have h1 := without_used (without (A ++ f :: B) f.name) s
  have h2 : usedR (without (A ++ f :: B) f.name) + f.s.size ≤ usedR (A ++ f :: B) := by
    have e : without (A ++ f :: B) f.name = without A f.name ++ without B f.name := by
      unfold without
      rw [List.filter_append, List.filter_cons, if_neg (by simp)]
    have ha := without_used A f.name
    have hb := without_used B f.name
    rw [e]
    simp [usedR] at ha hb ⊢
    omega
  have e : usedR (without (without (A ++ f :: B) f.name) s ++ [g]) = usedR (without (without (A ++ f :: B) f.name) s) + g.s.size := by simp [usedR]
  rw [e, hg]; omega
theorem own_drew {base e size n : Nat} {v : Value} {xs : List Value} (h : w.ownsRow base e size v n xs) : w.drew.ownsRow base e size v n xs := h
theorem news_drew {ad : Addr} {news : List Value} (h : ∀ j u, news[j]? = some u → w.cell? (ad.add j) = some u) : ∀ j u, news[j]? = some u → w.drew.cell? (ad.add j) = some u := h
theorem rb_drew {k : Nat} (h : RB q v L room steps fuse fault down k f w) : RB q v L room steps fuse fault down k f w.drew := ⟨h.ref.below (Below.refl _ _).drew, h.box, h.far⟩
set_option maxHeartbeats 4000000 in
set_option maxRecDepth 100000 in
theorem rrename_ok (h : RefAt w q v (A ++ f :: B) room steps fuse fault false) (hA : ∀ a ∈ A, a.name ≠ f.name) (t : ByteArray) (ht : Hid (t.size ≤ maxLen)) (hn : isNm t.data.toList = true) (hcs : CanStep steps fuse fault) :
    Calls Try.prog 18 #[.pointer (some ⟨q, 0, none⟩), .string f.name, .string t] w fun r w' => r = .returned (.int .i64 0) ∧
      ∃ v', RefAt w' q v' (without (without (A ++ f :: B) f.name) t ++ [⟨t, f.s, f.sure⟩]) room (steps + 1) (tick fuse) (tick fault) false ∧ Moves w (rfeet q v) w' (rfeet q v') := by
  obtain ⟨g, cap, cur, rfl, hh, hl, hm, x1, x2, x3⟩ := h.mid
  have hfew := h.few
  have HF : Hid ((without (without (A ++ f :: B) f.name) t).length < 200 ∧ (⟨t, f.s, f.sure⟩ : RFile).sure ≤ (⟨t, f.s, f.sure⟩ : RFile).s.size ∧ usedR (without (without (A ++ f :: B) f.name) t ++ [⟨t, f.s, f.sure⟩]) ≤ 16777216) :=
    ⟨Nat.lt_of_lt_of_le without_len hfew, h.sure f (by simp), Nat.le_trans (without_vol rfl) h.vol⟩
  have HNM : Hid (∀ W : World, Calls Try.prog 43 #[.string t] W fun e w' => e = .returned (.bool true) ∧ W = w') := fun W => by
    have := named_any t ht W
    rwa [hn] at this
  have H := Lib.hid (And.intro h hA)
  have hs : Hid (RStep 0 steps fuse fault false 0 (steps + 1) (tick fuse) (tick fault) false) := Lib.hid (Or.inr (Or.inr (Or.inr ⟨rfl, rfl, hcs, rfl, rfl, rfl, rfl, rfl⟩)))
  clear h hA hcs hh x1 x2 x3
  obtain ⟨i0, hi, hz0, hz1, hz2⟩ := info_parts info91
  have HI := Lib.hid (And.intro hi (And.intro hz0 (And.intro hz1 hz2)))
  clear hi hz0 hz1 hz2
  go_enter Try.func18, Try.ntmps18
  go_wp2_with (first
    | (go_at_call 42; with_reducible refine (find_hit H.out.1 H.out.2).mono ?_; rintro r w1 ⟨rfl, hb⟩)
    | (go_at_call 43; with_reducible refine (HNM.out _).mono ?_; rintro r w2 ⟨rfl, rfl⟩)
    | (go_at_call 44
       with_reducible refine (rstep_at (H.out.1.below hb) hs.out).mono ?_
       rintro r w3 ⟨rfl, h3, hm3⟩
       have c3 := ref0 h3.ref
       obtain ⟨y1, y2, y3, _⟩ := h3.at3
       have H3 := Lib.hid (And.intro h3 hm3)
       have R3 := Lib.hid (rb_new h3 f)
       clear h3 hm3)
    | (go_at_call 45
       with_reducible refine (gone_any R3.out.ref f.name).mono ?_
       rintro r w4 ⟨rfl, v4, h4, hm4⟩
       have H4 := Lib.hid (And.intro h4 hm4)
       have R4 := Lib.hid (rb_moves R3.out h4 hm4)
       clear h4 hm4)
    | (go_at_call 45
       with_reducible refine (gone_any R4.out.ref t).mono ?_
       rintro r w5 ⟨rfl, v5, h5, hm5⟩
       obtain ⟨L5, hL5⟩ : ∃ L5, without (without (A ++ f :: B) f.name) t = L5 := ⟨_, rfl⟩
       rw [hL5] at h5
       have HL := Lib.hid hL5
       obtain ⟨a5, c5, rfl⟩ := row_slice h5.row
       have R5 := rb_moves R4.out h5 hm5
       obtain ⟨z0, z1, z2, zf⟩ := rb_cells R5
       have M5 := moves_set (k := w3.heap.size) (j := 0) (x := .string t) (((Moves.of_below ((Below.refl _ w3).alloc (Nat.le_refl _) _)).trans H4.out.2).trans hm5) (Nat.le_refl _)
       have R6 := rb_set R5 t
       have S6 := Lib.hid (And.intro R6 M5)
       have k5 := R5.ref.few
       have c6 := ref0 R6.ref.ref
       obtain ⟨t0, t1, t2, _⟩ := rb_cells R6
       have fq := free_in R6.ref.ref 0
       clear h5 hm5 hL5 R5 R6 M5))
  obtain ⟨W6, hW6⟩ : ∃ W6, w5.setCell ⟨w3.heap.size, 0, none⟩ (.string t) = W6 := ⟨_, rfl⟩
  rw [hW6] at S6 c6 t0 t1 t2 fq ⊢
  have hq6 : q < W6.heap.size := S6.out.1.ref.lt q (by simp [rfeet])
  clear hW6
  refine wp_region_noPanic ?_
  refine wp_region_held_drew (S := (fun _ => True)) (by kernel_rfl) trivial (fun HS => ?_)
  refine wpAnyH_take (S := (fun _ => True)) (i := 0) (oi := { dst := some 39, op := Go.Op.move (Go.Operand.tmp 0), type := 28, pos := "ref.go:165", after := #[], guard := none }) (v := ?v1) rfl (by kernel_rfl) (by kernel_rfl) (by kernel_rfl) (fun _ _ _ h => h) (Or.inl ⟨by rfl, ?y1⟩) trivial ?r1
  case y1 => (intro wx hSw; go_simp; first | done | with_reducible rfl | skip)
  try simp only [Act.put, List.setIfInBounds_toArray, List.set_cons_zero, List.set_cons_succ]
  refine wpAnyH_take (S := (fun _ => True)) (i := 1) (oi := { dst := some 40, op := Go.Op.move (Go.Operand.tmp 0), type := 28, pos := "ref.go:165", after := #[], guard := none }) (v := ?v2) rfl (by kernel_rfl) (by kernel_rfl) (by kernel_rfl) (fun _ _ _ h => h) (Or.inl ⟨by rfl, ?y2⟩) trivial ?r2
  case y2 => (intro wx hSw; go_simp; first | done | with_reducible rfl | skip)
  try simp only [Act.put, List.setIfInBounds_toArray, List.set_cons_zero, List.set_cons_succ]
  refine wpAnyH_take (S := (fun _ => True)) (i := 2) (oi := { dst := some 41, op := Go.Op.nilCheck (Go.Operand.tmp 40), type := 0, pos := "ref.go:165", after := #[{ on := 1, ground := Go.Ground.data }], guard := none }) (v := ?v3) rfl (by kernel_rfl) (by kernel_rfl) (by kernel_rfl) (fun _ _ _ h => h) (Or.inl ⟨by rfl, ?y3⟩) trivial ?r3
  case y3 => (intro wx hSw; go_simp; first | done | with_reducible rfl | skip)
  try simp only [Act.put, List.setIfInBounds_toArray, List.set_cons_zero, List.set_cons_succ]
  refine wpAnyH_take (S := (fun _ => True)) (i := 3) (oi := { dst := some 42, op := Go.Op.fieldAddr 47 (Go.Operand.tmp 41) 0, type := 0, pos := "ref.go:165", after := #[{ on := 2, ground := Go.Ground.data }], guard := none }) (v := ?v4) rfl (by kernel_rfl) (by kernel_rfl) (by kernel_rfl) (fun _ _ _ h => h) (Or.inl ⟨by rfl, ?y4⟩) trivial ?r4
  case y4 => (intro wx hSw; go_simp; first | done | with_reducible rfl | skip)
  try simp only [Act.put, List.setIfInBounds_toArray, List.set_cons_zero, List.set_cons_succ]
  refine wpAnyH_ready (rs := [4, 5]) (by kernel_rfl) (by simp) ?_
  refine AllReadyH.cons (o := { dst := some 43, op := Go.Op.load 45 (Go.Operand.tmp 42), type := 45, pos := "ref.go:165", after := #[{ on := 3, ground := Go.Ground.data }], guard := none }) rfl (fun K hK => ?_) ?_
  · skip
    go_simp
    refine hK.out _ _ trivial (fun HS => ?_)
    try simp only [Act.put, List.setIfInBounds_toArray, List.set_cons_zero, List.set_cons_succ]
    refine wpAnyH_ready (rs := [5]) (by kernel_rfl) (by simp) ?_
    refine AllReadyH.cons (o := { dst := some 44, op := Go.Op.load 69 (Go.Operand.tmp 10), type := 69, pos := "ref.go:165", after := #[], guard := none }) rfl (fun K hK => ?_) AllReadyH.nil
    go_simp
    refine hK.out _ _ trivial (fun HS => ?_)
    try simp only [Act.put, List.setIfInBounds_toArray, List.set_cons_zero, List.set_cons_succ]
    refine wpAnyH_ready (rs := [6]) (by kernel_rfl) (by simp) ?_
    refine AllReadyH.cons (o := { dst := some 45, op := Go.Op.buildSlice 45 1 #[(0, Go.Operand.tmp 44)], type := 45, pos := "ref.go:165", after := #[{ on := 5, ground := Go.Ground.data }], guard := none }) rfl (fun K hK => ?_) AllReadyH.nil
    go_simp
    refine hK.out _ _ trivial (fun HS => ?_)
    try simp only [Act.put, List.setIfInBounds_toArray, List.set_cons_zero, List.set_cons_succ]
    refine wpAnyH_ready (rs := [7]) (by kernel_rfl) (by simp) ?_
    refine AllReadyH.cons (o := { dst := some 46, op := Go.Op.call { callee := Go.Callee.builtin Go.Builtin.append, args := #[Go.Operand.tmp 43, Go.Operand.tmp 45], argTypes := #[45, 45] }, type := 45, pos := "ref.go:165", after := #[{ on := 4, ground := Go.Ground.data }, { on := 6, ground := Go.Ground.data }], guard := none }) rfl (fun K hK => ?_) AllReadyH.nil
    refine step_append_lies _ rfl (.tmp 43) (.tmp 45) 45 rfl 0 69 i0 _ 3 40 Try.underlying45 HI.out.1 HI.out.2.1 HI.out.2.2.1 HI.out.2.2.2 rfl (by decide) (.slice a5 L5.length c5) L5.length (L5.flatMap RFile.cells) rfl (own_drew (S6.out.1.ref.row.alloc _)) ⟨W6.heap.size, 0, none⟩ 1 1 (RFile.cells ⟨t, f.s, f.sure⟩) rfl rfl (news_drew (World.news_of_block (heap_alloc_new W6 _))) one_file (by omega) (by unfold maxLen; omega) (by omega) (Nat.zero_le _) (W6.heap.size + 1) (by simp) ?_
    intro g7 cap7 w7 hown7 hgrow7 hwhere7 hlt7
    refine hK.out _ _ trivial (fun HS => ?_)
    try simp only [Act.put, List.setIfInBounds_toArray, List.set_cons_zero, List.set_cons_succ]
    have HE := Lib.hid (rename_row S6.out.1.ref hown7 hgrow7 hwhere7)
    have c7 := ref0 HE.out.1
    have f7 := free_in HE.out.1 0
    clear hown7 hgrow7 hwhere7
    refine wpAnyH_take (S := (fun _ => True)) (i := 8) (oi := { dst := some 47, op := Go.Op.nilCheck (Go.Operand.tmp 39), type := 0, pos := "ref.go:165", after := #[{ on := 0, ground := Go.Ground.data }, { on := 0, ground := Go.Ground.phase }, { on := 1, ground := Go.Ground.phase }, { on := 2, ground := Go.Ground.phase }, { on := 3, ground := Go.Ground.phase }, { on := 4, ground := Go.Ground.phase }, { on := 5, ground := Go.Ground.phase }, { on := 6, ground := Go.Ground.phase }, { on := 7, ground := Go.Ground.phase }], guard := none }) (v := ?v5) rfl (by kernel_rfl) (by kernel_rfl) (by kernel_rfl) (fun _ _ _ h => h) (Or.inl ⟨by rfl, ?y5⟩) trivial ?r5
    case y5 => (intro wx hSw; go_simp; first | done | with_reducible rfl | skip)
    try simp only [Act.put, List.setIfInBounds_toArray, List.set_cons_zero, List.set_cons_succ]
    refine wpAnyH_take (S := (fun _ => True)) (i := 9) (oi := { dst := some 48, op := Go.Op.fieldAddr 47 (Go.Operand.tmp 47) 0, type := 0, pos := "ref.go:165", after := #[{ on := 8, ground := Go.Ground.data }, { on := 0, ground := Go.Ground.phase }, { on := 1, ground := Go.Ground.phase }, { on := 2, ground := Go.Ground.phase }, { on := 3, ground := Go.Ground.phase }, { on := 4, ground := Go.Ground.phase }, { on := 5, ground := Go.Ground.phase }, { on := 6, ground := Go.Ground.phase }, { on := 7, ground := Go.Ground.phase }], guard := none }) (v := ?v6) rfl (by kernel_rfl) (by kernel_rfl) (by kernel_rfl) (fun _ _ _ h => h) (Or.inl ⟨by rfl, ?y6⟩) trivial ?r6
    case y6 => (intro wx hSw; go_simp; first | done | with_reducible rfl | skip)
    try simp only [Act.put, List.setIfInBounds_toArray, List.set_cons_zero, List.set_cons_succ]
    refine wpAnyH_ready (rs := [10]) (by kernel_rfl) (by simp) ?_
    refine AllReadyH.cons (o := { dst := none, op := Go.Op.store 45 (Go.Operand.tmp 48) (Go.Operand.tmp 46), type := 0, pos := "ref.go:165", after := #[{ on := 9, ground := Go.Ground.data }, { on := 7, ground := Go.Ground.data }, { on := 7, ground := Go.Ground.chain }, { on := 0, ground := Go.Ground.phase }, { on := 1, ground := Go.Ground.phase }, { on := 2, ground := Go.Ground.phase }, { on := 3, ground := Go.Ground.phase }, { on := 4, ground := Go.Ground.phase }, { on := 5, ground := Go.Ground.phase }, { on := 6, ground := Go.Ground.phase }, { on := 7, ground := Go.Ground.phase }], guard := none }) rfl (fun K hK => ?_) AllReadyH.nil
    go_simp
    refine hK.out _ _ trivial (fun HS => ?_)
    try simp only [Act.put, List.setIfInBounds_toArray, List.set_cons_zero, List.set_cons_succ]
    refine wpAnyH_done (by kernel_rfl) ?_ _
    refine NoPanic.normal ?_
    go_wp2
    go_ret
    obtain ⟨e1, e2⟩ := rename_put S6.out.1.ref HE.out (by have := HF.out.1; rw [HL.out] at this; omega) HF.out.2.1 (by have := HF.out.2.2; rw [HL.out] at this; exact this)
    rw [HL.out]
    exact ⟨rfl, _, e1, ((Moves.of_below hb).trans H3.out.2).trans (S6.out.2.trans e2)⟩
  · refine AllReadyH.cons (o := { dst := some 44, op := Go.Op.load 69 (Go.Operand.tmp 10), type := 69, pos := "ref.go:165", after := #[], guard := none }) rfl (fun K hK => ?_) AllReadyH.nil
    go_simp
    refine hK.out _ _ trivial (fun HS => ?_)
    try simp only [Act.put, List.setIfInBounds_toArray, List.set_cons_zero, List.set_cons_succ]
    refine wpAnyH_ready (rs := [4, 6]) (by kernel_rfl) (by simp) ?_
    refine AllReadyH.cons (o := { dst := some 43, op := Go.Op.load 45 (Go.Operand.tmp 42), type := 45, pos := "ref.go:165", after := #[{ on := 3, ground := Go.Ground.data }], guard := none }) rfl (fun K hK => ?_) ?_
    · skip
      go_simp
      refine hK.out _ _ trivial (fun HS => ?_)
      try simp only [Act.put, List.setIfInBounds_toArray, List.set_cons_zero, List.set_cons_succ]
      refine wpAnyH_ready (rs := [6]) (by kernel_rfl) (by simp) ?_
      refine AllReadyH.cons (o := { dst := some 45, op := Go.Op.buildSlice 45 1 #[(0, Go.Operand.tmp 44)], type := 45, pos := "ref.go:165", after := #[{ on := 5, ground := Go.Ground.data }], guard := none }) rfl (fun K hK => ?_) AllReadyH.nil
      go_simp
      refine hK.out _ _ trivial (fun HS => ?_)
      try simp only [Act.put, List.setIfInBounds_toArray, List.set_cons_zero, List.set_cons_succ]
      refine wpAnyH_ready (rs := [7]) (by kernel_rfl) (by simp) ?_
      refine AllReadyH.cons (o := { dst := some 46, op := Go.Op.call { callee := Go.Callee.builtin Go.Builtin.append, args := #[Go.Operand.tmp 43, Go.Operand.tmp 45], argTypes := #[45, 45] }, type := 45, pos := "ref.go:165", after := #[{ on := 4, ground := Go.Ground.data }, { on := 6, ground := Go.Ground.data }], guard := none }) rfl (fun K hK => ?_) AllReadyH.nil
      refine step_append_lies _ rfl (.tmp 43) (.tmp 45) 45 rfl 0 69 i0 _ 3 40 Try.underlying45 HI.out.1 HI.out.2.1 HI.out.2.2.1 HI.out.2.2.2 rfl (by decide) (.slice a5 L5.length c5) L5.length (L5.flatMap RFile.cells) rfl (own_drew (S6.out.1.ref.row.alloc _)) ⟨W6.heap.size, 0, none⟩ 1 1 (RFile.cells ⟨t, f.s, f.sure⟩) rfl rfl (news_drew (World.news_of_block (heap_alloc_new W6 _))) one_file (by omega) (by unfold maxLen; omega) (by omega) (Nat.zero_le _) (W6.heap.size + 1) (by simp) ?_
      intro g7 cap7 w7 hown7 hgrow7 hwhere7 hlt7
      refine hK.out _ _ trivial (fun HS => ?_)
      try simp only [Act.put, List.setIfInBounds_toArray, List.set_cons_zero, List.set_cons_succ]
      have HE := Lib.hid (rename_row S6.out.1.ref hown7 hgrow7 hwhere7)
      have c7 := ref0 HE.out.1
      have f7 := free_in HE.out.1 0
      clear hown7 hgrow7 hwhere7
      refine wpAnyH_take (S := (fun _ => True)) (i := 8) (oi := { dst := some 47, op := Go.Op.nilCheck (Go.Operand.tmp 39), type := 0, pos := "ref.go:165", after := #[{ on := 0, ground := Go.Ground.data }, { on := 0, ground := Go.Ground.phase }, { on := 1, ground := Go.Ground.phase }, { on := 2, ground := Go.Ground.phase }, { on := 3, ground := Go.Ground.phase }, { on := 4, ground := Go.Ground.phase }, { on := 5, ground := Go.Ground.phase }, { on := 6, ground := Go.Ground.phase }, { on := 7, ground := Go.Ground.phase }], guard := none }) (v := ?v7) rfl (by kernel_rfl) (by kernel_rfl) (by kernel_rfl) (fun _ _ _ h => h) (Or.inl ⟨by rfl, ?y7⟩) trivial ?r7
      case y7 => (intro wx hSw; go_simp; first | done | with_reducible rfl | skip)
      try simp only [Act.put, List.setIfInBounds_toArray, List.set_cons_zero, List.set_cons_succ]
      refine wpAnyH_take (S := (fun _ => True)) (i := 9) (oi := { dst := some 48, op := Go.Op.fieldAddr 47 (Go.Operand.tmp 47) 0, type := 0, pos := "ref.go:165", after := #[{ on := 8, ground := Go.Ground.data }, { on := 0, ground := Go.Ground.phase }, { on := 1, ground := Go.Ground.phase }, { on := 2, ground := Go.Ground.phase }, { on := 3, ground := Go.Ground.phase }, { on := 4, ground := Go.Ground.phase }, { on := 5, ground := Go.Ground.phase }, { on := 6, ground := Go.Ground.phase }, { on := 7, ground := Go.Ground.phase }], guard := none }) (v := ?v8) rfl (by kernel_rfl) (by kernel_rfl) (by kernel_rfl) (fun _ _ _ h => h) (Or.inl ⟨by rfl, ?y8⟩) trivial ?r8
      case y8 => (intro wx hSw; go_simp; first | done | with_reducible rfl | skip)
      try simp only [Act.put, List.setIfInBounds_toArray, List.set_cons_zero, List.set_cons_succ]
      refine wpAnyH_ready (rs := [10]) (by kernel_rfl) (by simp) ?_
      refine AllReadyH.cons (o := { dst := none, op := Go.Op.store 45 (Go.Operand.tmp 48) (Go.Operand.tmp 46), type := 0, pos := "ref.go:165", after := #[{ on := 9, ground := Go.Ground.data }, { on := 7, ground := Go.Ground.data }, { on := 7, ground := Go.Ground.chain }, { on := 0, ground := Go.Ground.phase }, { on := 1, ground := Go.Ground.phase }, { on := 2, ground := Go.Ground.phase }, { on := 3, ground := Go.Ground.phase }, { on := 4, ground := Go.Ground.phase }, { on := 5, ground := Go.Ground.phase }, { on := 6, ground := Go.Ground.phase }, { on := 7, ground := Go.Ground.phase }], guard := none }) rfl (fun K hK => ?_) AllReadyH.nil
      go_simp
      refine hK.out _ _ trivial (fun HS => ?_)
      try simp only [Act.put, List.setIfInBounds_toArray, List.set_cons_zero, List.set_cons_succ]
      refine wpAnyH_done (by kernel_rfl) ?_ _
      refine NoPanic.normal ?_
      go_wp2
      go_ret
      obtain ⟨e1, e2⟩ := rename_put S6.out.1.ref HE.out (by have := HF.out.1; rw [HL.out] at this; omega) HF.out.2.1 (by have := HF.out.2.2; rw [HL.out] at this; exact this)
      rw [HL.out]
      exact ⟨rfl, _, e1, ((Moves.of_below hb).trans H3.out.2).trans (S6.out.2.trans e2)⟩
    · refine AllReadyH.cons (o := { dst := some 45, op := Go.Op.buildSlice 45 1 #[(0, Go.Operand.tmp 44)], type := 45, pos := "ref.go:165", after := #[{ on := 5, ground := Go.Ground.data }], guard := none }) rfl (fun K hK => ?_) AllReadyH.nil
      go_simp
      refine hK.out _ _ trivial (fun HS => ?_)
      try simp only [Act.put, List.setIfInBounds_toArray, List.set_cons_zero, List.set_cons_succ]
      refine wpAnyH_ready (rs := [4]) (by kernel_rfl) (by simp) ?_
      refine AllReadyH.cons (o := { dst := some 43, op := Go.Op.load 45 (Go.Operand.tmp 42), type := 45, pos := "ref.go:165", after := #[{ on := 3, ground := Go.Ground.data }], guard := none }) rfl (fun K hK => ?_) AllReadyH.nil
      go_simp
      refine hK.out _ _ trivial (fun HS => ?_)
      try simp only [Act.put, List.setIfInBounds_toArray, List.set_cons_zero, List.set_cons_succ]
      refine wpAnyH_ready (rs := [7]) (by kernel_rfl) (by simp) ?_
      refine AllReadyH.cons (o := { dst := some 46, op := Go.Op.call { callee := Go.Callee.builtin Go.Builtin.append, args := #[Go.Operand.tmp 43, Go.Operand.tmp 45], argTypes := #[45, 45] }, type := 45, pos := "ref.go:165", after := #[{ on := 4, ground := Go.Ground.data }, { on := 6, ground := Go.Ground.data }], guard := none }) rfl (fun K hK => ?_) AllReadyH.nil
      refine step_append_lies _ rfl (.tmp 43) (.tmp 45) 45 rfl 0 69 i0 _ 3 40 Try.underlying45 HI.out.1 HI.out.2.1 HI.out.2.2.1 HI.out.2.2.2 rfl (by decide) (.slice a5 L5.length c5) L5.length (L5.flatMap RFile.cells) rfl (own_drew (S6.out.1.ref.row.alloc _)) ⟨W6.heap.size, 0, none⟩ 1 1 (RFile.cells ⟨t, f.s, f.sure⟩) rfl rfl (news_drew (World.news_of_block (heap_alloc_new W6 _))) one_file (by omega) (by unfold maxLen; omega) (by omega) (Nat.zero_le _) (W6.heap.size + 1) (by simp) ?_
      intro g7 cap7 w7 hown7 hgrow7 hwhere7 hlt7
      refine hK.out _ _ trivial (fun HS => ?_)
      try simp only [Act.put, List.setIfInBounds_toArray, List.set_cons_zero, List.set_cons_succ]
      have HE := Lib.hid (rename_row S6.out.1.ref hown7 hgrow7 hwhere7)
      have c7 := ref0 HE.out.1
      have f7 := free_in HE.out.1 0
      clear hown7 hgrow7 hwhere7
      refine wpAnyH_take (S := (fun _ => True)) (i := 8) (oi := { dst := some 47, op := Go.Op.nilCheck (Go.Operand.tmp 39), type := 0, pos := "ref.go:165", after := #[{ on := 0, ground := Go.Ground.data }, { on := 0, ground := Go.Ground.phase }, { on := 1, ground := Go.Ground.phase }, { on := 2, ground := Go.Ground.phase }, { on := 3, ground := Go.Ground.phase }, { on := 4, ground := Go.Ground.phase }, { on := 5, ground := Go.Ground.phase }, { on := 6, ground := Go.Ground.phase }, { on := 7, ground := Go.Ground.phase }], guard := none }) (v := ?v9) rfl (by kernel_rfl) (by kernel_rfl) (by kernel_rfl) (fun _ _ _ h => h) (Or.inl ⟨by rfl, ?y9⟩) trivial ?r9
      case y9 => (intro wx hSw; go_simp; first | done | with_reducible rfl | skip)
      try simp only [Act.put, List.setIfInBounds_toArray, List.set_cons_zero, List.set_cons_succ]
      refine wpAnyH_take (S := (fun _ => True)) (i := 9) (oi := { dst := some 48, op := Go.Op.fieldAddr 47 (Go.Operand.tmp 47) 0, type := 0, pos := "ref.go:165", after := #[{ on := 8, ground := Go.Ground.data }, { on := 0, ground := Go.Ground.phase }, { on := 1, ground := Go.Ground.phase }, { on := 2, ground := Go.Ground.phase }, { on := 3, ground := Go.Ground.phase }, { on := 4, ground := Go.Ground.phase }, { on := 5, ground := Go.Ground.phase }, { on := 6, ground := Go.Ground.phase }, { on := 7, ground := Go.Ground.phase }], guard := none }) (v := ?v10) rfl (by kernel_rfl) (by kernel_rfl) (by kernel_rfl) (fun _ _ _ h => h) (Or.inl ⟨by rfl, ?y10⟩) trivial ?r10
      case y10 => (intro wx hSw; go_simp; first | done | with_reducible rfl | skip)
      try simp only [Act.put, List.setIfInBounds_toArray, List.set_cons_zero, List.set_cons_succ]
      refine wpAnyH_ready (rs := [10]) (by kernel_rfl) (by simp) ?_
      refine AllReadyH.cons (o := { dst := none, op := Go.Op.store 45 (Go.Operand.tmp 48) (Go.Operand.tmp 46), type := 0, pos := "ref.go:165", after := #[{ on := 9, ground := Go.Ground.data }, { on := 7, ground := Go.Ground.data }, { on := 7, ground := Go.Ground.chain }, { on := 0, ground := Go.Ground.phase }, { on := 1, ground := Go.Ground.phase }, { on := 2, ground := Go.Ground.phase }, { on := 3, ground := Go.Ground.phase }, { on := 4, ground := Go.Ground.phase }, { on := 5, ground := Go.Ground.phase }, { on := 6, ground := Go.Ground.phase }, { on := 7, ground := Go.Ground.phase }], guard := none }) rfl (fun K hK => ?_) AllReadyH.nil
      go_simp
      refine hK.out _ _ trivial (fun HS => ?_)
      try simp only [Act.put, List.setIfInBounds_toArray, List.set_cons_zero, List.set_cons_succ]
      refine wpAnyH_done (by kernel_rfl) ?_ _
      refine NoPanic.normal ?_
      go_wp2
      go_ret
      obtain ⟨e1, e2⟩ := rename_put S6.out.1.ref HE.out (by have := HF.out.1; rw [HL.out] at this; omega) HF.out.2.1 (by have := HF.out.2.2; rw [HL.out] at this; exact this)
      rw [HL.out]
      exact ⟨rfl, _, e1, ((Moves.of_below hb).trans H3.out.2).trans (S6.out.2.trans e2)⟩
end
end Go.Proofs.Ytpeobjnamflibaa.Dk
