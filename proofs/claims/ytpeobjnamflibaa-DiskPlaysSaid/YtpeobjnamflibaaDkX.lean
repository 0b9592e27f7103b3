/-
  The document's own disk: what is made and deleted. Conditions: as each theorem states.
-/
import Derived.Test.YtpeobjnamflibaaDkW
import Derived.Deep.AppendLies
namespace Go.Proofs.Ytpeobjnamflibaa.Dk
open Go.RowKit Go.Maps

theorem info91 : (Try.prog.info? 69).map (fun i => (i.zero, i.size, i.bytes)) = some (some (.agg #[.string ⟨#[]⟩, .string ⟨#[]⟩, .int .i64 0]), 3, 40) := by kernel_rfl
section
variable {w : World} {q : Nat} {v : Value} {L A B : List RFile} {f : RFile} {room steps fuse fault : Int} {down : Bool}
/-- another row of files is put into the disk -/
theorem ref_put {w4 : World} {v' : Value} {L' : List RFile} {room' steps' fuse' fault' : Int} {down' : Bool} (h : RefAt w q v L room steps fuse fault down) (hR : RefIs w4 q v room' steps' fuse' fault' down') (hon : Only (rfeet q v) w w4) (hown : w4.ownsRow 0 69 3 v' L'.length (L'.flatMap RFile.cells))
    (hw : ∀ g, v'.ownBlock = some g → v.ownBlock = some g ∨ w.heap.size ≤ g) (hf : L'.length ≤ 200) (hs : ∀ f ∈ L', f.sure ≤ f.s.size) (hv : usedR L' ≤ 16777216) :
    RefAt (w4.setCell ⟨q, 0, none⟩ v') q v' L' room' steps' fuse' fault' down' ∧ Moves w (rfeet q v) (w4.setCell ⟨q, 0, none⟩ v') (rfeet q v') := by
  have hq : q < w.heap.size := h.lt q (by simp [rfeet])
  have hne : v'.ownBlock ≠ some q := by
    intro e
    rcases hw q e with h1 | h1
    · exact h.apart h1
    · omega
  refine ⟨⟨heap_set hR 0 v', ownsRow_kept hown (fun g hg => Below.heap_setCell w4 ⟨q, 0, none⟩ v' g (fun e => hne (by rw [hg, e]))), hf, hne, hs, hv⟩,
    hon.trans ((Only.of_grown (grown_set w4 q 0 v') (fun k e => by injection e with e; subst e; simp)).widen (fp := [q]) (by simp [rfeet])), ?_⟩
  intro k hk
  unfold rfeet at hk ⊢
  rcases List.mem_cons.1 hk with rfl | hk
  · exact Or.inl (by simp)
  · rcases hw k (by simpa using hk) with h1 | h1
    · exact Or.inl (by simp [h1])
    · exact Or.inr h1
theorem findI_here {s : ByteArray} (h : ∃ f ∈ L, f.name = s) : 0 ≤ findI L s.data.toList := by
  unfold findI
  cases hf : findL L s.data.toList with
  | some i => exact Int.natCast_nonneg i
  | none =>
    unfold findL at hf
    rw [List.findIdx?_eq_none_iff] at hf
    obtain ⟨f, hm, he⟩ := h
    have := hf f hm
    simp [he] at this
theorem findI_gone {s : ByteArray} (h : ∀ f ∈ L, f.name ≠ s) : findI L s.data.toList = -1 := findL_none (fun j hj => by
    rw [List.getElem?_eq_getElem hj]
    simp
    exact h _ (List.getElem_mem hj))
/-- the own error of Create -/
def CreateOwn (L : List RFile) (s : ByteArray) (own : Int) : Prop :=
  (isNm s.data.toList = false ∧ own = 12) ∨ (isNm s.data.toList = true ∧ (∃ f ∈ L, f.name = s) ∧ own = 17) ∨ (isNm s.data.toList = true ∧ (∀ f ∈ L, f.name ≠ s) ∧ (200 ≤ L.length ∧ own = 6 ∨ L.length < 200 ∧ own = 0))
set_option maxRecDepth 100000 in
theorem rcreate_fails {code steps' fuse' fault' : Int} {down' : Bool} (h : RefAt w q v L room steps fuse fault down) (s : ByteArray) (hsz : Hid (s.size ≤ maxLen)) {own : Int} (hown : CreateOwn L s own) (hs : RStep own steps fuse fault down code steps' fuse' fault' down') (hc : (code == 0) = false) :
    Calls Try.prog 14 #[.pointer (some ⟨q, 0, none⟩), .string s] w fun r w' => r = .returned (.int .i64 code) ∧ RefAt w' q v L room steps' fuse' fault' down' ∧ Moves w (rfeet q v) w' (rfeet q v) := by
  have hfew := h.few
  have hlen : ∃ a c, v = .slice a L.length c := row_slice h.row
  obtain ⟨a, c, rfl⟩ := hlen
  have c0 := ref0 h.ref
  obtain ⟨i, hi⟩ : ∃ i : Int, findI L s.data.toList = i := ⟨_, rfl⟩
  have hfind := find_any h.ref h.row s h.few
  rw [hi] at hfind
  have HF := Lib.hid hfind
  clear hfind
  have hi' : 0 ≤ i ∨ i < 0 := by omega
  have hl' : 200 ≤ L.length ∨ L.length < 200 := by omega
  have H := Lib.hid (And.intro h hs)
  clear h hs
  rcases hown with ⟨hn, rfl⟩ | ⟨hn, hx, rfl⟩ | ⟨hn, hx, hx2⟩
  · clear hi
    rcases hi' with hi' | hi' <;> rcases hl' with hl' | hl'
    all_goals
      go_enter Try.func14, Try.ntmps14
      go_wp2_with (first
        | (go_at_call 42; with_reducible refine (HF.out).mono ?_; rintro r w1 ⟨rfl, hb⟩)
        | (go_at_call 43; with_reducible refine (named_any s hsz _).mono ?_; rintro r w2 ⟨rfl, rfl⟩)
        | (go_at_call 44; with_reducible refine (rstep_at (H.out.1.below hb) H.out.2).mono ?_; rintro r w3 ⟨rfl, h3, hm3⟩))
      go_ret
      exact ⟨rfl, h3, (Moves.of_below hb).trans hm3⟩
  · have hge := findI_here hx
    rw [hi] at hge
    clear hi hi' hx
    rcases hl' with hl' | hl'
    all_goals
      go_enter Try.func14, Try.ntmps14
      go_wp2_with (first
        | (go_at_call 42; with_reducible refine (HF.out).mono ?_; rintro r w1 ⟨rfl, hb⟩)
        | (go_at_call 43; with_reducible refine (named_any s hsz _).mono ?_; rintro r w2 ⟨rfl, rfl⟩)
        | (go_at_call 44; with_reducible refine (rstep_at (H.out.1.below hb) H.out.2).mono ?_; rintro r w3 ⟨rfl, h3, hm3⟩))
      go_ret
      exact ⟨rfl, h3, (Moves.of_below hb).trans hm3⟩
  · have hge := findI_gone hx
    rw [hi] at hge
    subst hge
    clear hi hi' hx hl'
    rcases hx2 with ⟨hx2, rfl⟩ | ⟨hx2, rfl⟩
    all_goals
      go_enter Try.func14, Try.ntmps14
      go_wp2_with (first
        | (go_at_call 42; with_reducible refine (HF.out).mono ?_; rintro r w1 ⟨rfl, hb⟩)
        | (go_at_call 43; with_reducible refine (named_any s hsz _).mono ?_; rintro r w2 ⟨rfl, rfl⟩)
        | (go_at_call 44; with_reducible refine (rstep_at (H.out.1.below hb) H.out.2).mono ?_; rintro r w3 ⟨rfl, h3, hm3⟩))
      go_ret
      exact ⟨rfl, h3, (Moves.of_below hb).trans hm3⟩
set_option maxRecDepth 100000 in
theorem rcreate_ok (h : RefAt w q v L room steps fuse fault false) (s : ByteArray) (hsz : Hid (s.size ≤ maxLen)) (hn : isNm s.data.toList = true) (hx : ∀ f ∈ L, f.name ≠ s) (hl : L.length < 200) (hcs : CanStep steps fuse fault) :
    Calls Try.prog 14 #[.pointer (some ⟨q, 0, none⟩), .string s] w fun r w' => r = .returned (.int .i64 0) ∧ ∃ v', RefAt w' q v' (L ++ [⟨s, ⟨#[]⟩, 0⟩]) room (steps + 1) (tick fuse) (tick fault) false ∧ Moves w (rfeet q v) w' (rfeet q v') := by
  have hs : RStep 0 steps fuse fault false 0 (steps + 1) (tick fuse) (tick fault) false := Or.inr (Or.inr (Or.inr ⟨rfl, rfl, hcs, rfl, rfl, rfl, rfl, rfl⟩))
  have hlen : ∃ a c, v = .slice a L.length c := row_slice h.row
  obtain ⟨a, c, rfl⟩ := hlen
  have c0 := ref0 h.ref
  have H := Lib.hid (And.intro h (And.intro hs hx))
  clear h hs hx hcs
  obtain ⟨i0, hi, hz0, hz1, hz2⟩ := info_parts info91
  have HI := Lib.hid (And.intro hi (And.intro hz0 (And.intro hz1 hz2)))
  clear hi hz0 hz1 hz2
  go_enter Try.func14, Try.ntmps14
  go_wp2_with (first
    | (go_at_call 42; with_reducible refine (find_miss H.out.1 s H.out.2.2).mono ?_; rintro r w1 ⟨rfl, hb⟩)
    | (go_at_call 43; with_reducible refine (named_any s hsz _).mono ?_; rintro r w2 ⟨rfl, rfl⟩)
    | (go_at_call 44
       with_reducible refine (rstep_at (H.out.1.below hb) H.out.2.1).mono ?_
       rintro r w3 ⟨rfl, h3, hm3⟩
       have c3 := ref0 h3.ref
       have f3 := free_in h3.ref 0
       have hq3 : q < w3.heap.size := h3.lt q (by simp [rfeet])
       have H3 := Lib.hid (And.intro h3 hm3)
       clear h3 hm3)
    | (at_builtin
       refine wpList_append_lies _ rfl _ _ 45 rfl 0 69 i0 _ 3 40 Try.underlying45 HI.out.1 HI.out.2.1 HI.out.2.2.1 HI.out.2.2.2 rfl (by decide) (.slice a L.length c) L.length (L.flatMap RFile.cells) rfl (H3.out.1.row.alloc _) ⟨w3.heap.size, 0, none⟩ 1 1 (RFile.cells ⟨s, ⟨#[]⟩, 0⟩) rfl rfl ?c1 ?c2 (by omega) (by unfold maxLen; omega) (by omega) (Nat.zero_le _) (w3.heap.size + 1) (by simp) ?_
       case c1 => exact World.news_of_block (heap_alloc_new w3 _)
       case c2 => intro x hx; simp [RFile.cells] at hx; rcases hx with rfl | rfl | rfl <;> rfl
       intro g cap w4 hown4 hgrow4 hwhere hlt4
       have hR4 : RefIs w4 q (.slice a L.length c) room (steps + 1) (tick fuse) (tick fault) false := (hgrow4.block q (by simp; omega) (fun e => H3.out.1.apart e.symm)).trans ((Below.heap_alloc w3 _ q hq3).trans H3.out.1.ref)
       have c4 := ref0 hR4
       have f4 := free_in hR4 0
       have HE := Lib.hid (And.intro hR4 (And.intro hown4 (And.intro hgrow4 hwhere)))
       clear hR4 hown4 hgrow4 hwhere))
  go_ret
  have hon : Only (rfeet q (.slice a L.length c)) w3 w4 := (Only.of_below ((Below.refl _ w3).alloc (Nat.le_refl _) _)).trans (Only.of_grown HE.out.2.2.1 (fun k e => by simp [rfeet, ← e]))
  obtain ⟨e1, e2⟩ := ref_put (L' := L ++ [⟨s, ⟨#[]⟩, 0⟩]) H3.out.1 HE.out.1 hon (v' := .slice (some ⟨g, 0, none⟩) (L.length + 1) cap) (by rw [List.flatMap_append, List.length_append]; simpa using HE.out.2.1)
    (fun g' hg' => by
      have e : g = g' := by simpa [Value.ownBlock] using hg'
      subst e
      rcases HE.out.2.2.2 with h1 | h1
      · exact Or.inl h1
      · exact Or.inr (by omega)) (by simp; omega) (fun f hf => by
      rcases List.mem_append.1 hf with hf | hf
      · exact H3.out.1.sure f hf
      · have : f = ⟨s, ⟨#[]⟩, 0⟩ := by simpa using hf
        subst this
        exact Nat.zero_le _) (by have := H3.out.1.vol; simp [usedR] at this ⊢; exact this)
  exact ⟨rfl, _, e1, ((Moves.of_below hb).trans H3.out.2).trans e2⟩
end
end Go.Proofs.Ytpeobjnamflibaa.Dk
