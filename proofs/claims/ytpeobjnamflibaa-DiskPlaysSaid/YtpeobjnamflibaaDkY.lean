/-
  The document's own disk: without a file. Conditions: as each theorem states.
-/
import Derived.Test.YtpeobjnamflibaaDkX
namespace Go.Proofs.Ytpeobjnamflibaa.Dk
open Go.RowKit Go.Maps

section
variable {w : World} {q : Nat} {v : Value} {L A B : List RFile} {f : RFile} {room steps fuse fault : Int} {down : Bool}
def without (L : List RFile) (s : ByteArray) : List RFile := L.filter (fun f => decide (f.name ≠ s))
theorem without_le (L : List RFile) (s : ByteArray) : (without L s).length ≤ L.length := List.length_filter_le _ _
theorem without_used (L : List RFile) (s : ByteArray) : usedR (without L s) ≤ usedR L := by
  induction L with
  | nil => exact Nat.le_refl _
  | cons a L ih =>
    unfold without at ih ⊢
    rw [List.filter_cons]
    split
    · simp [usedR] at ih ⊢; omega
    · simp [usedR] at ih ⊢; omega
theorem without_take {s : ByteArray} {k : Nat} (hk : k < L.length) : without (L.take (k + 1)) s = if L[k].name = s then without (L.take k) s else without (L.take k) s ++ [L[k]] := by
  unfold without
  rw [List.take_succ_eq_append_getElem hk, List.filter_append]
  split
  · rename_i h; simp [h]
  · rename_i h; simp [h]
theorem ownsRow_zero {base e size n : Nat} {v : Value} {xs : List Value} (h : w.ownsRow base e size v n xs) : w.ownsRow 0 e size v n xs := by
  refine ⟨h.1, ?_⟩
  rcases h.2 with h1 | ⟨g, cap, cur, rfl, hb, r⟩
  · exact Or.inl h1
  · exact Or.inr ⟨g, cap, cur, rfl, Nat.zero_le _, r⟩
theorem ownsRow_base {base e size n g : Nat} {v : Value} {xs : List Value} (h : w.ownsRow base e size v n xs) (hg : v.ownBlock = some g) : base ≤ g := by
  rcases h.2 with ⟨rfl, _⟩ | ⟨g', cap, cur, rfl, hb, r⟩
  · cases hg
  · have : g' = g := by simpa [Value.ownBlock] using hg
    subst this
    exact hb
theorem news_two (wr : World) (o : Obj) (cs : Array Value) {t : TypeId} : ∀ j u, cs.toList[j]? = some u → ((wr.alloc o).alloc (Obj.cells cs t)).cell? ((⟨wr.heap.size + 1, 0, none⟩ : Addr).add j) = some u :=
  World.news_of_block (fr := (0, 0)) (by have := heap_alloc_new (wr.alloc o) (Obj.cells cs t); simpa using this)
def GoneRel (w : World) (L : List RFile) (s : ByteArray) (l i : Value) (wr : World) : Prop :=
  ∃ k : Nat, k ≤ L.length ∧ i = .int .i64 k ∧ Hid (wr.ownsRow w.heap.size 69 3 l (without (L.take k) s).length ((without (L.take k) s).flatMap RFile.cells)) ∧ Below w.heap.size w wr
set_option maxRecDepth 100000 in
theorem gone_any (h : RefAt w q v L room steps fuse fault down) (s : ByteArray) :
    Calls Try.prog 45 #[.pointer (some ⟨q, 0, none⟩), .string s] w fun r w' => r = .returned (.tuple #[]) ∧ ∃ v', RefAt w' q v' (without L s) room steps fuse fault down ∧ Moves w (rfeet q v) w' (rfeet q v') := by
  have c0 := ref0 h.ref
  have hr := h.row
  have hfew := h.few
  have H := Lib.hid h
  clear h
  obtain ⟨i0, hi, hz0, hz1, hz2⟩ := info_parts info91
  have HI := Lib.hid (And.intro hi (And.intro hz0 (And.intro hz1 hz2)))
  clear hi hz0 hz1 hz2
  rcases hr.2 with ⟨rfl, hn⟩ | ⟨g, cap, cur, rfl, _, hh, hl, hm, hsz, hcur⟩
  · have hL : L = [] := List.length_eq_zero_iff.1 hn
    subst hL
    clear hr hn
    go_enter Try.func45, Try.ntmps45
    go_wp2
    go_loop [4, 12] (fun l i => l = .slice none 0 0 ∧ i = .int .i64 0) (fun _ i => 0)
    case atStart => exact ⟨rfl, rfl⟩
    case round =>
      obtain ⟨rfl, rfl⟩ := hrel
      have f0 := free_in H.out.ref 0
      go_wp2
      go_end0
      obtain ⟨e1, e2⟩ := ref_put (L' := []) H.out H.out.ref (Only.refl _ _) (v' := .slice none 0 0) ⟨rfl, Or.inl ⟨rfl, rfl⟩⟩ (fun g' hg' => by cases hg') (by simp) (by simp) (by simp [usedR])
      exact ⟨rfl, _, e1, e2⟩
  · have HC := Lib.hid (And.intro hh hcur)
    have hq : q < w.heap.size := (Array.getElem?_eq_some_iff.1 H.out.ref).1
    have hg : g < w.heap.size := (Array.getElem?_eq_some_iff.1 hh).1
    have HR := Lib.hid (And.intro hr hsz)
    clear hr hsz hh hcur
    go_enter Try.func45, Try.ntmps45
    go_wp2
    go_loopw [4, 12] (GoneRel w L s) (fun _ i _ => L.length - (intOf i).toNat)
    case atStart => exact ⟨0, by omega, rfl, Lib.hid ⟨rfl, Or.inl ⟨rfl, rfl⟩⟩, Below.refl _ _⟩
    case round =>
      obtain ⟨k, hk, rfl, hl4, hb⟩ := hrel
      have hwl := without_le (L.take k) s
      have hkl : (L.take k).length ≤ 200 := by rw [List.length_take]; omega
      by_cases hlt : k < L.length
      · obtain ⟨x1, x2, x3⟩ := row_cells HC.out.1 HC.out.2 k hlt
        rw [← hb.cell (p := ⟨g, k * 3, none⟩) hg] at x1
        rw [← hb.cell (p := ⟨g, k * 3 + 1, none⟩) hg] at x2
        rw [← hb.cell (p := ⟨g, k * 3 + 2, none⟩) hg] at x3
        have hzr := hb.size
        have hwt := Lib.hid (without_take (s := s) hlt)
        by_cases hin : L[k].name = s
        · go_wp2
          go_roundw
          case rel => exact ⟨k + 1, by omega, by go_num, Lib.hid (by rw [hwt.out, if_pos hin]; exact hl4.out.alloc _), hb.alloc hb.size _⟩
          case measure => simp [intOf]; omega
        · have hbq := (Lib.bytes_beq_false_iff L[k].name s).2 hin
          obtain ⟨N, hN⟩ : ∃ N, (without (L.take k) s).length = N := ⟨_, rfl⟩
          have hl5 := hl4.out
          rw [hN] at hwl hl5
          have HN := Lib.hid (And.intro hN hl5)
          clear hN hl4 hl5
          go_wp2_with (first
            | (at_builtin
               refine wpList_append_own _ rfl _ _ 45 rfl w.heap.size 69 i0 _ 3 40 Try.underlying45 HI.out.1 HI.out.2.1 HI.out.2.2.1 HI.out.2.2.2 rfl (by decide) _ N ((without (L.take k) s).flatMap RFile.cells) rfl ((HN.out.2.alloc _).alloc _) ⟨wr.heap.size + 1, 0, none⟩ 1 1 (RFile.cells L[k]) rfl rfl ?c1 ?c2 (by unfold maxLen; omega) (by omega) (by simp; omega) ?_
               case c1 => exact news_two wr _ _
               case c2 => intro x hx; simp [RFile.cells] at hx; rcases hx with rfl | rfl | rfl <;> rfl
               intro v5 w5 hown5 hgrow5 hnil5))
          go_roundw
          case rel =>
            have hb2 : Below w.heap.size w ((wr.alloc (Obj.cells #[.string L[k].name, .string L[k].s, .int .i64 (L[k].sure : Int)] 69)).alloc (Obj.cells #[.string L[k].name, .string L[k].s, .int .i64 (L[k].sure : Int)] 69)) := (hb.alloc hb.size _).alloc (by simp; omega) _
            refine ⟨k + 1, by omega, by go_num, Lib.hid ?_, hb2.grown hgrow5 hb2.size (fun g' hg' => ownsRow_base HN.out.2 hg')⟩
            rw [hwt.out, if_neg hin, List.flatMap_append, List.length_append, HN.out.1]
            simpa using hown5
          case measure => simp [intOf]; omega
      · obtain rfl : k = L.length := by omega
        have f0 := free_in ((hb.block q hq).trans H.out.ref) 0
        have c0' := (hb.cell (p := ⟨q, 0, none⟩) hq).trans c0
        obtain ⟨a4, c4, hv4⟩ := row_slice hl4.out
        subst hv4
        go_wp2
        go_end0
        have hl5 := hl4.out
        rw [List.take_of_length_le (Nat.le_refl _)] at hl5
        obtain ⟨e1, e2⟩ := ref_put (L' := without L s) H.out ((hb.block q hq).trans H.out.ref) (Only.of_below hb) (ownsRow_zero hl5) (fun g' hg' => Or.inr (ownsRow_base hl5 hg')) (Nat.le_trans (without_le L s) hfew) (fun f hf => H.out.sure f (List.mem_filter.1 hf).1) (Nat.le_trans (without_used L s) H.out.vol)
        exact ⟨rfl, _, e1, e2⟩
end
end Go.Proofs.Ytpeobjnamflibaa.Dk
