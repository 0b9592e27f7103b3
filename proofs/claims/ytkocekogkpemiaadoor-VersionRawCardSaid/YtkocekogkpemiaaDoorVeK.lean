/-
  The law's package on versions: files as the document's: the Go text walked. Conditions: as each theorem states.
-/
import Derived.Test.YtkocekogkpemiaaDoorVeJ
namespace Go.Proofs.YtkocekogkpemiaaDoor.Ve
open Go.RowKit
open Go.Proofs.YtkocekogkpemiaaDoor
open Vi Ba Ed

theorem infoRFile : (Tryd.prog.info? 51).map (fun i => (i.zero, i.size, i.bytes)) = some (some (.agg #[.int .u64 0, .int .u64 0, .int .u64 0, .string ⟨#[]⟩, .string ⟨#[]⟩]), 5, 56) := by kernel_rfl
theorem news_two_five (w1 : World) (o : Obj) (x : Fil) (t : TypeId) : ∀ j y, (five x)[j]? = some y → ((w1.alloc o).alloc (.cells #[.int .u64 x.number, .int .u64 x.size, .int .u64 x.count, .string x.least, .string x.most] t)).cell? ((⟨w1.heap.size + 1, 0, none⟩ : Addr).add j) = some y := by
  refine fbox_cells ?_
  have h := (MapKept.heap_alloc (w1.alloc o) (.cells #[.int .u64 x.number, .int .u64 x.size, .int .u64 x.count, .string x.least, .string x.most] t)).1
  rw [show (w1.alloc o).heap.size = w1.heap.size + 1 by simp] at h
  exact ⟨cell_in h 0 _ rfl, cell_in h 1 _ rfl, cell_in h 2 _ rfl, cell_in h 3 _ rfl, cell_in h 4 _ rfl⟩
def FiRel (w : World) (l : List Fil) (s iv : Value) (W : World) : Prop := ∃ (j : Nat) (la : List Fil), iv = .int .i64 (j : Nat) ∧ j ≤ l.length ∧ W.ownsRow w.heap.size 51 5 s la.length (fCells la) ∧ Below w.heap.size w W ∧ la = l.take j
def FiPost (w : World) (l : List Fil) (e : Ending) (w' : World) : Prop := ∃ A c, e = .returned (.slice A l.length c) ∧ FRow w' A l ∧ (∀ a, A = some a → w.heap.size ≤ a.block) ∧ Below w.heap.size w w'
theorem two_grown {w W W' : World} {o1 o2 : Obj} {v : Value} (hb : Below w.heap.size w W) (hl : ∀ k, v.ownBlock = some k → w.heap.size ≤ k ∧ k < W.heap.size) (hg : ((W.alloc o1).alloc o2).grownBy W' v.ownBlock) : Below w.heap.size w W' := by
  have h2 := hb.trans ((two_new W o1 o2).mono hb.size)
  exact ⟨hg.os.trans h2.os, hg.tape.trans h2.tape, hg.output.trans h2.output, Nat.le_trans h2.size hg.size, fun i hi => (hg.block i (by have := h2.size; omega) (fun e => by have := (hl i e.symm).1; omega)).trans (h2.block i hi)⟩
theorem own_block_far {w : World} {B : Nat} {t : TypeId} {A : Option Addr} {n c : Nat} {cs : List Value} (h : w.ownsRow B t 5 (.slice A n c) n cs) : ∀ a, A = some a → B ≤ a.block := fun a ha => by
  subst ha
  rcases h.2 with ⟨e, _⟩ | ⟨g, cap, cur, e, hb, _⟩
  · cases e
  · injection e with e
    injection e with e
    subst e
    exact hb
set_option maxHeartbeats 2000000 in
set_option maxRecDepth 100000 in
theorem files_any {w : World} {l : List Fil} {A : Option Addr} (c : Nat) (R : FRow w A l) (hl : l.length ≤ 100000) :
    Calls Tryd.prog 5 #[.slice A l.length c] w (FiPost w l) := by
  obtain ⟨i0, hi, hz0, hz1, hz2⟩ := info_parts infoRFile
  have HI := Lib.hid (And.intro hi (And.intro hz0 (And.intro hz1 hz2)))
  clear hi hz0 hz1 hz2
  replace R := Lib.hid R
  go_enter Tryd.func5, Tryd.ntmps5
  go_wp2
  go_loopw [3, 8] (FiRel w l) (fun _ i _ => l.length - (intOf i).toNat)
  case atStart => exact ⟨0, [], rfl, by omega, World.ownsRow_nil _ _ _ _, Below.refl _ _, rfl⟩
  case round =>
    obtain ⟨j, la, rfl, hj, P, hb, hla⟩ := hrel
    have hsz := hb.size
    obtain ⟨A9, c9, rfl, _⟩ := frow_of P
    have hlb : la.length ≤ 100000 := by rw [hla, List.length_take]; omega
    replace hla := Lib.hid hla
    replace P := Lib.hid P
    by_cases hlt : j < l.length
    · obtain ⟨a, rfl, hab, hca⟩ := R.out (by omega)
      have hbl : (a.add (j * 5)).block < w.heap.size := by rw [block_add]; exact hab
      obtain ⟨x0, x1, x2, x3, x4⟩ := (hca j hlt).on hbl hb
      have HT : Hid (la ++ [l[j]] = l.take (j + 1)) := by rw [Hid, hla.out, List.take_succ_eq_append_getElem hlt]
      clear hca
      replace hb := Lib.hid hb
      generalize l[j] = y at *
      go_wp2_with (first
        | (at_builtin
           refine wpList_append_lies _ rfl _ _ 27 rfl w.heap.size 51 i0 _ 5 56 Tryd.underlying27 HI.out.1 HI.out.2.1 HI.out.2.2.1 HI.out.2.2.2 rfl (by decide) (.slice A9 la.length c9) la.length (fCells la) rfl ((P.out.alloc _).alloc _) ⟨wr.heap.size + 1, 0, none⟩ 1 1 (five y) rfl rfl (news_two_five wr _ y _) (by simp [five, Value.oneCell']) (by omega) (by unfold maxLen; omega) (by omega) (by simp; omega) (wr.heap.size + 2) (by simp) ?_
           intro g cap w8 hown8 hgrow8 hwhere hlt8
           have HE := Lib.hid (And.intro hown8 hgrow8)
           clear hown8 hgrow8 hwhere hlt8))
      go_roundw
      case rel => exact ⟨j + 1, la ++ [y], by go_num, by omega, by rw [fCells_snoc, List.length_append]; exact HE.out.1, two_grown hb.out (P.out.lt) HE.out.2, HT.out⟩
      case measure => simp [intOf]; omega
    · have hj2 : j = l.length := by omega
      have hlc : la = l := by rw [hla.out, hj2, List.take_length]
      clear hla
      subst hlc
      obtain ⟨A2, c2, he, hf⟩ := frow_of P.out
      injection he with he _ he2
      subst he he2
      have hfar := own_block_far P.out
      replace hf := Lib.hid hf
      replace hfar := Lib.hid hfar
      clear P
      replace hb := Lib.hid hb
      go_wp2
      go_ret
      exact ⟨_, _, rfl, hf.out, hfar.out, hb.out⟩
end Go.Proofs.YtkocekogkpemiaaDoor.Ve
