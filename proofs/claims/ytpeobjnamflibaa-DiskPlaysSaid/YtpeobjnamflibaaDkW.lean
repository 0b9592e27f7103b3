/-
  The document's own disk: what is laid behind. Conditions: as each theorem states.
-/
import Derived.Test.YtpeobjnamflibaaDkV
namespace Go.Proofs.Ytpeobjnamflibaa.Dk
open Go.RowKit Go.Maps

section
variable {w : World} {q : Nat} {v : Value} {L A B : List RFile} {f : RFile} {room steps fuse fault : Int} {down : Bool}
theorem RefAt.drew (h : RefAt w q v L room steps fuse fault down) : RefAt w.drew q v L room steps fuse fault down := h.below (Below.refl _ _).drew
set_option maxRecDepth 100000 in
theorem rappend_full {code steps' fuse' fault' : Int} {down' : Bool} (h : RefAt w q v (A ++ f :: B) room steps fuse fault down) (hA : ∀ a ∈ A, a.name ≠ f.name) (t : ByteArray) (ht : t.size ≤ 3000) (hr0 : 0 ≤ room) (hr1 : room ≤ 16777216) (hfull : room < ((usedR (A ++ f :: B) : Nat) : Int) + (t.size : Int)) (hs : RStep 14 steps fuse fault down code steps' fuse' fault' down') :
    Calls Try.prog 26 #[.pointer (some ⟨q, 0, none⟩), .string f.name, .string t] w fun r w' => r = .returned (.int .i64 code) ∧ RefAt w' q v (A ++ f :: B) room steps' fuse' fault' down' ∧ Moves w (rfeet q v) w' (rfeet q v) := by
  have hc := hs.no rfl
  have hvol := h.vol
  have hfew := h.few
  have hq : q < w.heap.size := h.lt q (by simp [rfeet])
  obtain ⟨U, hU⟩ : ∃ U, usedR (A ++ f :: B) = U := ⟨_, rfl⟩
  have hUsed : ∀ {W : World}, RefAt W q v (A ++ f :: B) room steps fuse fault down → Calls Try.prog 31 #[.pointer (some ⟨q, 0, none⟩)] W fun r w' => r = .returned (.int .i64 ((U : Nat) : Int)) ∧ Below W.heap.size W w' := by
    intro W hW; rw [← hU]; exact rused_any hW
  rw [hU] at hvol hfull
  have HUs := Lib.hid (And.intro hU @hUsed)
  clear hU hUsed
  have hw1 : IntKind.i64.wrap ((U : Int) + (t.size : Int)) = (U : Int) + (t.size : Int) := IntWalk.i64_in _ (by omega)
  have H := Lib.hid (And.intro h (And.intro hA hs))
  clear h hA hs
  go_enter Try.func26, Try.ntmps26
  go_wp2_with (first
    | (go_at_call 42; with_reducible refine (find_hit H.out.1 H.out.2.1).mono ?_; rintro r w1 ⟨rfl, hb⟩; have hz : w.heap.size ≤ w1.heap.size := hb.size; have H1 := Lib.hid (H.out.1.below hb); have c1 := ref1 H1.out.ref))
  go_region_held3 (fun wx => wx.cell? ⟨q, 1, none⟩ = some (.int .i64 room)) (first | go_keep | (rw [hb2.cell (p := ⟨q, 1, none⟩) (by simp; omega)]; go_keep))
    (first
      | (go_at_call 31; refine (HUs.out.2 H1.out.drew).mono ?_; rintro r w2 ⟨rfl, hb2⟩))
  clear hw1
  have hbb := Lib.hid (And.intro hb ((Below.refl w1.heap.size w1).drew.trans hb2))
  clear hb hb2 c1
  go_wp2_with (go_at_call 44; with_reducible refine (rstep_at (H1.out.below hbb.out.2) H.out.2.2).mono ?_; rintro r w3 ⟨rfl, h3, hm3⟩)
  go_ret
  exact ⟨rfl, h3, ((Moves.of_below hbb.out.1).trans (Moves.of_below hbb.out.2)).trans hm3⟩
set_option maxRecDepth 100000 in
theorem rappend_fails {code steps' fuse' fault' : Int} {down' : Bool} (h : RefAt w q v (A ++ f :: B) room steps fuse fault down) (hA : ∀ a ∈ A, a.name ≠ f.name) (t : ByteArray) (ht : t.size ≤ 3000) (hr0 : 0 ≤ room) (hr1 : room ≤ 16777216) (hroom : ((usedR (A ++ f :: B) : Nat) : Int) + (t.size : Int) ≤ room) (hs : RStep 0 steps fuse fault down code steps' fuse' fault' down') (hc : (code == 0) = false) :
    Calls Try.prog 26 #[.pointer (some ⟨q, 0, none⟩), .string f.name, .string t] w fun r w' => r = .returned (.int .i64 code) ∧ RefAt w' q v (A ++ f :: B) room steps' fuse' fault' down' ∧ Moves w (rfeet q v) w' (rfeet q v) := by
  have hvol := h.vol
  have hfew := h.few
  have hq : q < w.heap.size := h.lt q (by simp [rfeet])
  obtain ⟨U, hU⟩ : ∃ U, usedR (A ++ f :: B) = U := ⟨_, rfl⟩
  have hUsed : ∀ {W : World}, RefAt W q v (A ++ f :: B) room steps fuse fault down → Calls Try.prog 31 #[.pointer (some ⟨q, 0, none⟩)] W fun r w' => r = .returned (.int .i64 ((U : Nat) : Int)) ∧ Below W.heap.size W w' := by
    intro W hW; rw [← hU]; exact rused_any hW
  rw [hU] at hvol hroom
  have HUs := Lib.hid (And.intro hU @hUsed)
  clear hU hUsed
  have hw1 : IntKind.i64.wrap ((U : Int) + (t.size : Int)) = (U : Int) + (t.size : Int) := IntWalk.i64_in _ (by omega)
  have H := Lib.hid (And.intro h (And.intro hA hs))
  clear h hA hs
  go_enter Try.func26, Try.ntmps26
  go_wp2_with (first
    | (go_at_call 42; with_reducible refine (find_hit H.out.1 H.out.2.1).mono ?_; rintro r w1 ⟨rfl, hb⟩; have hz : w.heap.size ≤ w1.heap.size := hb.size; have H1 := Lib.hid (H.out.1.below hb); have c1 := ref1 H1.out.ref))
  go_region_held3 (fun wx => wx.cell? ⟨q, 1, none⟩ = some (.int .i64 room)) (first | go_keep | (rw [hb2.cell (p := ⟨q, 1, none⟩) (by simp; omega)]; go_keep))
    (first
      | (go_at_call 31; refine (HUs.out.2 H1.out.drew).mono ?_; rintro r w2 ⟨rfl, hb2⟩))
  clear hw1
  have hbb := Lib.hid (And.intro hb ((Below.refl w1.heap.size w1).drew.trans hb2))
  clear hb hb2 c1
  go_wp2_with (go_at_call 44; with_reducible refine (rstep_at (H1.out.below hbb.out.2) H.out.2.2).mono ?_; rintro r w3 ⟨rfl, h3, hm3⟩)
  go_ret
  exact ⟨rfl, h3, ((Moves.of_below hbb.out.1).trans (Moves.of_below hbb.out.2)).trans hm3⟩
set_option maxRecDepth 100000 in
theorem rappend_miss {code steps' fuse' fault' : Int} {down' : Bool} (h : RefAt w q v L room steps fuse fault down) (s : ByteArray) (hA : ∀ a ∈ L, a.name ≠ s) (t : ByteArray) (ht : t.size ≤ 3000) (hs : RStep 16 steps fuse fault down code steps' fuse' fault' down') :
    Calls Try.prog 26 #[.pointer (some ⟨q, 0, none⟩), .string s, .string t] w fun r w' => r = .returned (.int .i64 code) ∧ RefAt w' q v L room steps' fuse' fault' down' ∧ Moves w (rfeet q v) w' (rfeet q v) := by
  have hc := hs.no rfl
  have hvol := h.vol
  have hfew := h.few
  have hq : q < w.heap.size := h.lt q (by simp [rfeet])
  obtain ⟨U, hU⟩ : ∃ U, usedR L = U := ⟨_, rfl⟩
  have hUsed : ∀ {W : World}, RefAt W q v L room steps fuse fault down → Calls Try.prog 31 #[.pointer (some ⟨q, 0, none⟩)] W fun r w' => r = .returned (.int .i64 ((U : Nat) : Int)) ∧ Below W.heap.size W w' := by
    intro W hW; rw [← hU]; exact rused_any hW
  rw [hU] at hvol
  have HUs := Lib.hid (And.intro hU @hUsed)
  clear hU hUsed
  have hw1 : IntKind.i64.wrap ((U : Int) + (t.size : Int)) = (U : Int) + (t.size : Int) := IntWalk.i64_in _ (by omega)
  have H := Lib.hid (And.intro h (And.intro hA hs))
  clear h hA hs
  go_enter Try.func26, Try.ntmps26
  go_wp2_with (first
    | (go_at_call 42; with_reducible refine (find_miss H.out.1 s H.out.2.1).mono ?_; rintro r w1 ⟨rfl, hb⟩; have hz : w.heap.size ≤ w1.heap.size := hb.size; have H1 := Lib.hid (H.out.1.below hb); have c1 := ref1 H1.out.ref))
  go_region_held3 (fun wx => wx.cell? ⟨q, 1, none⟩ = some (.int .i64 room)) (first | go_keep | (rw [hb2.cell (p := ⟨q, 1, none⟩) (by simp; omega)]; go_keep))
    (first
      | (go_at_call 31; refine (HUs.out.2 H1.out.drew).mono ?_; rintro r w2 ⟨rfl, hb2⟩))
  clear hw1
  have hbb := Lib.hid (And.intro hb ((Below.refl w1.heap.size w1).drew.trans hb2))
  clear hb hb2 c1
  by_cases hx : room < (U : Int) + (t.size : Int)
  · go_wp2_with (go_at_call 44; with_reducible refine (rstep_at (H1.out.below hbb.out.2) H.out.2.2).mono ?_; rintro r w3 ⟨rfl, h3, hm3⟩)
    go_ret
    exact ⟨rfl, h3, ((Moves.of_below hbb.out.1).trans (Moves.of_below hbb.out.2)).trans hm3⟩
  · have hx' : (U : Int) + (t.size : Int) ≤ room := by omega
    clear hx
    go_wp2_with (go_at_call 44; with_reducible refine (rstep_at (H1.out.below hbb.out.2) H.out.2.2).mono ?_; rintro r w3 ⟨rfl, h3, hm3⟩)
    go_ret
    exact ⟨rfl, h3, ((Moves.of_below hbb.out.1).trans (Moves.of_below hbb.out.2)).trans hm3⟩
set_option maxRecDepth 100000 in
theorem rappend_ok (h : RefAt w q v (A ++ f :: B) room steps fuse fault false) (hA : ∀ a ∈ A, a.name ≠ f.name) (t : ByteArray) (ht : t.size ≤ 3000) (hr0 : 0 ≤ room) (hr1 : room ≤ 16777216) (hroom : ((usedR (A ++ f :: B) : Nat) : Int) + (t.size : Int) ≤ room) (hcs : CanStep steps fuse fault) :
    Calls Try.prog 26 #[.pointer (some ⟨q, 0, none⟩), .string f.name, .string t] w fun r w' => r = .returned (.int .i64 0) ∧ RefAt w' q v (A ++ ⟨f.name, f.s ++ t, f.sure⟩ :: B) room (steps + 1) (tick fuse) (tick fault) false ∧ Moves w (rfeet q v) w' (rfeet q v) := by
  have hs : RStep 0 steps fuse fault false 0 (steps + 1) (tick fuse) (tick fault) false := Or.inr (Or.inr (Or.inr ⟨rfl, rfl, hcs, rfl, rfl, rfl, rfl, rfl⟩))
  obtain ⟨g, cap, cur, rfl, hh, hl, hm, x1, x2, x3⟩ := h.mid
  have hsz : f.s.size ≤ usedR (A ++ f :: B) := by simp [usedR]; omega
  clear hcs hh x1 x2 x3
  have hvol := h.vol
  have hfew := h.few
  have hq : q < w.heap.size := h.lt q (by simp [rfeet])
  obtain ⟨U, hU⟩ : ∃ U, usedR (A ++ f :: B) = U := ⟨_, rfl⟩
  have hUsed : ∀ {W : World}, RefAt W q (.slice (some ⟨g, 0, none⟩) (A.length + (B.length + 1)) cap) (A ++ f :: B) room steps fuse fault false → Calls Try.prog 31 #[.pointer (some ⟨q, 0, none⟩)] W fun r w' => r = .returned (.int .i64 ((U : Nat) : Int)) ∧ Below W.heap.size W w' := by
    intro W hW; rw [← hU]; exact rused_any hW
  rw [hU] at hvol hroom hsz
  have HUs := Lib.hid (And.intro hU @hUsed)
  clear hU hUsed
  have hw1 : IntKind.i64.wrap ((U : Int) + (t.size : Int)) = (U : Int) + (t.size : Int) := IntWalk.i64_in _ (by omega)
  have H := Lib.hid (And.intro h (And.intro hA hs))
  clear h hA hs
  go_enter Try.func26, Try.ntmps26
  go_wp2_with (first
    | (go_at_call 42; with_reducible refine (find_hit H.out.1 H.out.2.1).mono ?_; rintro r w1 ⟨rfl, hb⟩; have hz : w.heap.size ≤ w1.heap.size := hb.size; have H1 := Lib.hid (H.out.1.below hb); have c1 := ref1 H1.out.ref))
  go_region_held3 (fun wx => wx.cell? ⟨q, 1, none⟩ = some (.int .i64 room)) (first | go_keep | (rw [hb2.cell (p := ⟨q, 1, none⟩) (by simp; omega)]; go_keep))
    (first
      | (go_at_call 31; refine (HUs.out.2 H1.out.drew).mono ?_; rintro r w2 ⟨rfl, hb2⟩))
  clear hw1
  have hbb := Lib.hid (And.intro hb ((Below.refl w1.heap.size w1).drew.trans hb2))
  clear hb hb2 c1
  go_wp2_with (go_at_call 44
               with_reducible refine (rstep_at (H1.out.below hbb.out.2) H.out.2.2).mono ?_
               rintro r w3 ⟨rfl, h3, hm3⟩
               have c0 := ref0 h3.ref
               have hx := h3.at3
               obtain ⟨x1, x2, x3, xf⟩ := hx
               have x4 := xf (A.length * 3 + 1)
               have H3 := Lib.hid (And.intro h3 hm3)
               clear h3 hm3 xf)
  go_region
  go_wp2
  go_ret
  obtain ⟨e1, e2⟩ := H3.out.1.set (j := 1) (val := .string (f.s ++ t)) (f' := ⟨f.name, f.s ++ t, f.sure⟩) (by omega) rfl (by have := H3.out.1.sure f (by simp); simp; omega) (by have := HUs.out.1; simp [usedR] at this ⊢; omega)
  exact ⟨rfl, e1.below (Below.refl _ _).drew, (((Moves.of_below hbb.out.1).trans (Moves.of_below hbb.out.2)).trans H3.out.2).trans ⟨(e2.widen (by simp [rfeet, Value.ownBlock])).trans (Only.of_below (Below.refl _ _).drew), fun k hk => Or.inl hk⟩⟩
end
end Go.Proofs.Ytpeobjnamflibaa.Dk
