/-
  A strings.Builder in memory, boxes: what the Go texts share. Conditions: as each theorem states.
-/
import Derived.Test.YtkocekogkpemiaaDoorEdBack
import Derived.Test.YtkocekogkpemiaaDoorEdA
import Derived.Test.YtkocekogkpemiaaDoorBu
import Derived.RegionTactic
namespace Go.Proofs.YtkocekogkpemiaaDoor.Ed
open Go.RowKit
open Go.Proofs.YtkocekogkpemiaaDoor
open Vi Ba

/-- A strings.Builder in memory. -/
def Bd (B b : Nat) (l : List UInt8) (w : World) : Prop := Lib.IsBuilderF 98 5 B b (Lib.byteCells l) w
theorem bd_fresh (w : World) : Bd w.heap.size w.heap.size [] (w.alloc (.cells #[.pointer none, .slice none 0 0] 98)) := Lib.IsBuilderF.of (Lib.fresh_isBuilder _ _ w)
theorem at_below {T e : TypeId} {B b : Nat} {p : Value} {l : List Value} {w w' : World} (h : Lib.BuilderAtF T e B b p l w) (hb : Below w.heap.size w w') : Lib.BuilderAtF T e B b p l w' := by
  have hlt := h.lt
  obtain ⟨hB, v, hv, hown, hne⟩ := h
  exact ⟨hB, v, (hb.block b hlt).trans hv, hown.kept (row := none) ⟨hb.os, hb.tape, hb.output, hb.size, fun k hk _ => hb.block k hk⟩ (Classical.em _), hne⟩
theorem bd_below {B b : Nat} {l : List UInt8} {w w' : World} (h : Bd B b l w) (hb : Below w.heap.size w w') : Bd B b l w' :=
  h.elim (fun x => .inl (at_below x hb)) (fun x => .inr (at_below x hb))
theorem bd_lt {B b : Nat} {l : List UInt8} {w : World} (h : Bd B b l w) : B ≤ b ∧ b < w.heap.size :=
  h.elim (fun x => ⟨x.1, x.lt⟩) (fun x => ⟨x.1, x.lt⟩)
/-- what is no row of bytes, and not the builder, is kept -/
def Kept (b : Nat) (w w' : World) : Prop := Lib.OthersKept 5 (some b) w w'
theorem bd_write {B b : Nat} {l s : List UInt8} {w : World} (h : Bd B b l w) (hlen : l.length + s.length ≤ 140737488355328) :
    Calls Tryd.prog 44 #[.pointer (some ⟨b, 0, none⟩), .string (bs s)] w fun e w' => e = .returned (.tuple #[.int .i64 (bs s).size, .nilIface]) ∧ Bd B b (l ++ s) w' ∧ Below B w w' ∧ Kept b w w' := by
  refine (Any.Builder_WriteString_k Tryd.lays166 Tryd.Builder_Extra_166 B b _ (bs s) w h (by rw [Lib.byteCells_length, bs_size]; exact hlen) (by have := bd_lt h; omega)).mono ?_
  rintro e w' ⟨he, hb, hw, hk⟩
  refine ⟨he, .inr ?_, hw, hk⟩
  have e1 : Lib.byteCells (l ++ s) = Lib.byteCells l ++ Lib.strCells (bs s) := by rw [Lib.strCells_eq, bs_toList]; simp [Lib.byteCells]
  rw [e1]; exact hb
theorem bd_string {B b : Nat} {l : List UInt8} {w : World} (h : Bd B b l w) :
    Calls Tryd.prog 47 #[.pointer (some ⟨b, 0, none⟩)] w fun e w' => e = .returned (.string (bs l)) ∧ Below B w w' :=
  (Tryd.Builder_String_any_k B b l w h (by have := bd_lt h; omega)).mono fun _ _ ⟨h1, _, h2, _⟩ => ⟨h1, h2⟩
theorem kept_below {b : Nat} {w w' : World} (h : Below w.heap.size w w') : Kept b w w' := fun k o hk _ _ => (h.block k (Array.getElem?_eq_some_iff.1 hk).1).trans hk
theorem block_add (a : Addr) (n : Nat) : (a.add n).block = a.block := by unfold Addr.add; split <;> rfl
theorem cell_lt {w : World} {p : Addr} {v : Value} (h : w.cell? p = some v) : p.block < w.heap.size := by
  rcases Nat.lt_or_ge p.block w.heap.size with h' | h'
  · exact h'
  · unfold World.cell? at h
    rw [Array.getElem?_eq_none h'] at h
    simp at h
theorem str_nil {s : ByteArray} (h : ¬ s.size = 0) : s.toList.isEmpty = false ∧ ¬ s.toList = [] := by
  have e : ¬ s.toList = [] := fun e => h (by rw [Lib.toList_data] at e; rw [← size_len, e]; rfl)
  exact ⟨by simpa using e, e⟩
theorem box_below {w wr : World} {o : Obj} (hb : Below (w.heap.size + 1) (w.alloc o) wr) : Below w.heap.size w wr :=
  ((Below.refl _ _).alloc (Nat.le_refl _) _).trans (hb.mono (by omega))
theorem box_size {w wr : World} {o : Obj} (hb : Below (w.heap.size + 1) (w.alloc o) wr) : w.heap.size + 1 ≤ wr.heap.size := by
  have := hb.size; simpa using this
theorem box_step {w wr w2 : World} {o o2 : Obj} (hb : Below (w.heap.size + 1) (w.alloc o) wr) (h2 : Below (wr.alloc o2).heap.size (wr.alloc o2) w2) : Below (w.heap.size + 1) (w.alloc o) w2 :=
  (hb.alloc (box_size hb) _).trans (h2.mono (by have := box_size hb; simp; omega))
end Go.Proofs.YtkocekogkpemiaaDoor.Ed
