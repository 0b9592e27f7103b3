/-
  The Go text of orders, walked: small, Parse, ParseMoney. Conditions: as each theorem states.
-/
import Derived.Test.YtckkabiafikjfaaOrM
namespace Go.Proofs.Ytckkabiafikjfaa.Odx
open Go.RowKit
open Go.Proofs.Ytckkabiafikjfaa
open Am Vi

abbrev Rd (W : World) (a : Nat) (s : ByteArray) (p : Pt) : Prop := RdAt 55 W a s p.1 p.2
abbrev RdP (w : World) (a : Nat) (s : ByteArray) (v : Value) (p : Pt) (e : Ending) (w' : World) : Prop := e = .returned v ∧ Rd w' a s p ∧ w.grownBy w' (some a)
theorem num_rd {w : World} {a : Nat} {s : ByteArray} {p : Pt} (h : Rd w a s p) (hs : s.size ≤ 1000000) (ha : p.1 ≤ s.size) :
    Calls Try.prog 16 #[.pointer (some ⟨a, 0, none⟩)] w (RdP w a s (.int .u64 (nx s.data.toList p).1) (nx s.data.toList p).2) := rnum_any h hs ha
theorem sig_rd {w : World} {a : Nat} {s : ByteArray} {p : Pt} (h : Rd w a s p) (hs : s.size ≤ 1000000) (ha : p.1 ≤ s.size) :
    Calls Try.prog 18 #[.pointer (some ⟨a, 0, none⟩)] w (RdP w a s (.int .i64 (zag (nx s.data.toList p).1)) (nx s.data.toList p).2) := rsigned_any h hs ha
theorem small_rd {w : World} {a : Nat} {s : ByteArray} {p : Pt} (h : Rd w a s p) (hs : s.size ≤ 1000000) (ha : p.1 ≤ s.size) :
    Calls Try.prog 17 #[.pointer (some ⟨a, 0, none⟩)] w (RdP w a s (.int .i64 (sm s.data.toList p).1) (sm s.data.toList p).2) := by
  have HN := Lib.hid (num_rd h hs ha)
  have hlt := nx_lt s.data.toList p
  by_cases h2 : 2147483647 < (nx s.data.toList p).1
  · have e : sm s.data.toList p = (0, dFail (nx s.data.toList p).2.1 (nx s.data.toList p).2.2 4) := if_pos h2
    rw [e]
    have HF := Lib.hid fun (W : World) (h : Rd W a s (nx s.data.toList p).2) => fail_any 4 h
    clear h e
    generalize nx s.data.toList p = q at *
    obtain ⟨n, q⟩ := q
    simp only at *
    go_enter Try.func17, Try.ntmps17
    go_wp2_with (first
      | (go_at_call 16; (with_reducible refine HN.out.mono ?_); rintro e w2 ⟨rfl, h2, g2⟩; have R2 := Lib.hid (And.intro h2 g2); clear h2 g2)
      | (go_at_call 29; (with_reducible refine (HF.out _ R2.out.1).mono ?_); rintro e w3 ⟨rfl, h3, g3⟩))
    go_ret
    exact ⟨rfl, h3, R2.out.2.trans g3⟩
  · have e : sm s.data.toList p = nx s.data.toList p := if_neg h2
    rw [e]
    clear h e
    generalize nx s.data.toList p = q at *
    obtain ⟨n, q⟩ := q
    simp only at *
    go_enter Try.func17, Try.ntmps17
    go_wp2_with (go_at_call 16; (with_reducible refine HN.out.mono ?_); rintro e w2 ⟨rfl, h2, g2⟩)
    go_ret
    exact ⟨ret_int (by first | rfl | (rw [wrap64_in (by omega) (by omega)])), h2, g2⟩
/-- Parse under way: the reader, the answer's box. -/
structure PS (w : World) (s : ByteArray) (o : Obj) (p : Pt) (W : World) : Prop where
  rd : Rd W (w.heap.size + 1) s p
  box : W.heap[w.heap.size]? = some o
  below : Below w.heap.size w W
section
variable {w W W2 : World} {s : ByteArray} {o : Obj} {p q : Pt}
theorem ps_start {w1 : World} (h1 : RdAt 55 w1 (w.alloc o).heap.size s 0 0) (b1 : Below (w.alloc o).heap.size (w.alloc o) w1) : PS w s o (0, 0) w1 := by
  have hz : (w.alloc o).heap.size = w.heap.size + 1 := by simp
  refine ⟨?_, ?_, on_alloc b1⟩
  · rw [hz] at h1; exact h1
  · rw [b1.block _ (by omega)]; exact heap_alloc_new _ _
theorem ps_grown (h : PS w s o p W) (h2 : Rd W2 (w.heap.size + 1) s q) (g : W.grownBy W2 (some (w.heap.size + 1))) : PS w s o q W2 := by
  have hs : w.heap.size < W.heap.size := (Array.getElem?_eq_some_iff.1 h.box).1
  refine ⟨h2, ?_, h.below.trans ⟨g.os, g.tape, g.output, g.size, fun k hk => g.block k (by omega) (fun e => by injection e with e; omega)⟩⟩
  rw [g.block _ hs (fun e => by injection e with e; omega)]; exact h.box
theorem ps_below (h : PS w s o p W) (hb : Below W.heap.size W W2) : PS w s o p W2 :=
  ⟨rd_kept h.rd (grown_below hb none) (by simp), (hb.block _ (Array.getElem?_eq_some_iff.1 h.box).1).trans h.box, h.below.trans (hb.mono h.below.size)⟩
theorem ps_drewN (h : PS w s o p W) (k : Nat) : PS w s o p (W.drewN k) := ⟨h.rd, h.box, ⟨h.below.os, h.below.tape, h.below.output, h.below.size, h.below.block⟩⟩
theorem ps_alloc (h : PS w s o p W) (o2 : Obj) : PS w s o p (W.alloc o2) := ps_below h (alloc_below _ _)
theorem ps_lt (h : PS w s o p W) : w.heap.size < W.heap.size := (Array.getElem?_eq_some_iff.1 h.box).1
end
end Go.Proofs.Ytckkabiafikjfaa.Odx
