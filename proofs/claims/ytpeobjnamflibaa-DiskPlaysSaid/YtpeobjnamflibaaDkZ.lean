/-
  The document's own disk: what is deleted. Conditions: as each theorem states.
-/
import Derived.Test.YtpeobjnamflibaaDkY
namespace Go.Proofs.Ytpeobjnamflibaa.Dk
open Go.RowKit Go.Maps

section
variable {w : World} {q : Nat} {v : Value} {L A B : List RFile} {f : RFile} {room steps fuse fault : Int} {down : Bool}
theorem rdelete_fails {own code steps' fuse' fault' : Int} {down' : Bool} (h : RefAt w q v L room steps fuse fault down) (s : ByteArray) (hown : (own = 16 ∧ ∀ f ∈ L, f.name ≠ s) ∨ (own = 0 ∧ ∃ f ∈ L, f.name = s))
    (hs : RStep own steps fuse fault down code steps' fuse' fault' down') (hc : (code == 0) = false) :
    Calls Try.prog 20 #[.pointer (some ⟨q, 0, none⟩), .string s] w fun r w' => r = .returned (.int .i64 code) ∧ RefAt w' q v L room steps' fuse' fault' down' ∧ Moves w (rfeet q v) w' (rfeet q v) := by
  obtain ⟨i, hi⟩ : ∃ i : Int, findI L s.data.toList = i := ⟨_, rfl⟩
  have hfind := find_any h.ref h.row s h.few
  rw [hi] at hfind
  have HF := Lib.hid hfind
  clear hfind
  have H := Lib.hid (And.intro h hs)
  clear h hs
  rcases hown with ⟨rfl, hx⟩ | ⟨rfl, hx⟩
  · have hge := findI_gone hx
    rw [hi] at hge
    subst hge
    clear hi hx
    go_enter Try.func20, Try.ntmps20
    go_wp2_with (first
      | (go_at_call 42; with_reducible refine (HF.out).mono ?_; rintro r w1 ⟨rfl, hb⟩)
      | (go_at_call 44; with_reducible refine (rstep_at (H.out.1.below hb) H.out.2).mono ?_; rintro r w3 ⟨rfl, h3, hm3⟩))
    go_ret
    exact ⟨rfl, h3, (Moves.of_below hb).trans hm3⟩
  · have hge := findI_here hx
    rw [hi] at hge
    have hge2 : ¬ i < 0 := by omega
    clear hi hx hge
    go_enter Try.func20, Try.ntmps20
    go_wp2_with (first
      | (go_at_call 42; with_reducible refine (HF.out).mono ?_; rintro r w1 ⟨rfl, hb⟩)
      | (go_at_call 44; with_reducible refine (rstep_at (H.out.1.below hb) H.out.2).mono ?_; rintro r w3 ⟨rfl, h3, hm3⟩))
    go_ret
    exact ⟨rfl, h3, (Moves.of_below hb).trans hm3⟩
theorem rdelete_ok (h : RefAt w q v L room steps fuse fault false) (s : ByteArray) (hx : ∃ f ∈ L, f.name = s) (hcs : CanStep steps fuse fault) :
    Calls Try.prog 20 #[.pointer (some ⟨q, 0, none⟩), .string s] w fun r w' => r = .returned (.int .i64 0) ∧ ∃ v', RefAt w' q v' (without L s) room (steps + 1) (tick fuse) (tick fault) false ∧ Moves w (rfeet q v) w' (rfeet q v') := by
  have hs : RStep 0 steps fuse fault false 0 (steps + 1) (tick fuse) (tick fault) false := Or.inr (Or.inr (Or.inr ⟨rfl, rfl, hcs, rfl, rfl, rfl, rfl, rfl⟩))
  obtain ⟨i, hi⟩ : ∃ i : Int, findI L s.data.toList = i := ⟨_, rfl⟩
  have hfind := find_any h.ref h.row s h.few
  rw [hi] at hfind
  have HF := Lib.hid hfind
  have hge := findI_here hx
  rw [hi] at hge
  have hge2 : ¬ i < 0 := by omega
  have H := Lib.hid (And.intro h hs)
  clear h hs hfind hi hx hge hcs
  go_enter Try.func20, Try.ntmps20
  go_wp2_with (first
    | (go_at_call 42; with_reducible refine (HF.out).mono ?_; rintro r w1 ⟨rfl, hb⟩)
    | (go_at_call 44; with_reducible refine (rstep_at (H.out.1.below hb) H.out.2).mono ?_; rintro r w3 ⟨rfl, h3, hm3⟩; have H3 := Lib.hid h3; clear h3)
    | (go_at_call 45; with_reducible refine (gone_any H3.out s).mono ?_; rintro r w4 ⟨rfl, v4, h4, hm4⟩))
  go_ret
  exact ⟨rfl, v4, h4, ((Moves.of_below hb).trans hm3).trans hm4⟩
end
end Go.Proofs.Ytpeobjnamflibaa.Dk
