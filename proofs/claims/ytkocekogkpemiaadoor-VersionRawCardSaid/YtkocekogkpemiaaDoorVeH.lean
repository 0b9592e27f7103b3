/-
  The Go text of versions, walked: a row of files that grows; one file put into a level. Conditions: as each theorem states.
-/
import Derived.Test.YtkocekogkpemiaaDoorVeG
import Derived.Test.YtkocekogkpemiaaDoorEdI
namespace Go.Proofs.YtkocekogkpemiaaDoor.Ve
open Go.RowKit
open Go.Proofs.YtkocekogkpemiaaDoor
open Vi Ba Ed

def five (a : Fil) : List Value := [.int .u64 a.number, .int .u64 a.size, .int .u64 a.count, .string a.least, .string a.most]
def fCells (l : List Fil) : List Value := l.flatMap five
theorem fCells_snoc (l : List Fil) (c : Fil) : fCells (l ++ [c]) = fCells l ++ five c := by unfold fCells; rw [List.flatMap_append]; simp
theorem fflat_at : ∀ (l : List Fil) (i : Nat) (hi : i < l.length) (r : Nat), r < 5 → (fCells l)[i * 5 + r]? = (five l[i])[r]?
  | p :: l, 0, _, r, hr => by
    rw [fCells, List.flatMap_cons, Nat.zero_mul, Nat.zero_add, List.getElem?_append_left (by simpa [five] using hr)]; rfl
  | p :: l, i + 1, hi, r, hr => by
    have e : (i + 1) * 5 + r - (five p).length = i * 5 + r := by simp [five]; omega
    rw [fCells, List.flatMap_cons, List.getElem?_append_right (by simp [five]; omega), e]
    exact fflat_at l i (by simpa using hi) r hr
theorem frow_of {w : World} {B : Nat} {t : TypeId} {v : Value} {l : List Fil} (h : w.ownsRow B t 5 v l.length (fCells l)) :
    ∃ A c, v = .slice A l.length c ∧ FRow w A l := by
  have hc := fun g hg => h.cells (g := g) hg
  rcases h.2 with ⟨rfl, h0⟩ | ⟨g, cap, cur, rfl, hb, hg, _⟩
  · exact ⟨none, 0, by rw [h0], fun h1 => by omega⟩
  · refine ⟨some ⟨g, 0, none⟩, cap, rfl, fun _ => ⟨_, rfl, (Array.getElem?_eq_some_iff.1 hg).1, fun i hi => ?_⟩⟩
    have hk : ∀ r u, r < 5 → (five l[i])[r]? = some u → w.cell? ⟨g, i * 5 + r, none⟩ = some u := fun r u hr hu => by
      have := hc g rfl (i * 5 + r) u (by rw [fflat_at l i hi r hr]; exact hu)
      rwa [add_flat] at this
    rw [add_flat]
    exact ⟨hk 0 _ (by decide) rfl, hk 1 _ (by decide) rfl, hk 2 _ (by decide) rfl, hk 3 _ (by decide) rfl, hk 4 _ (by decide) rfl⟩
theorem infoFile : (Tryd.prog.info? 34).map (fun i => (i.zero, i.size, i.bytes)) = some (some (.agg #[.int .u64 0, .int .u64 0, .int .u64 0, .string ⟨#[]⟩, .string ⟨#[]⟩]), 5, 56) := by kernel_rfl
theorem fbox_cells {W : World} {g : Nat} {x : Fil} (h : FBox W g x) : ∀ j y, (five x)[j]? = some y → W.cell? ((⟨g, 0, none⟩ : Addr).add j) = some y := by
  obtain ⟨c0, c1, c2, c3, c4⟩ := h
  intro j y hj
  rcases (by have := (List.getElem?_eq_some_iff.1 hj).1; simp [five] at this; omega : j = 0 ∨ j = 1 ∨ j = 2 ∨ j = 3 ∨ j = 4) with rfl | rfl | rfl | rfl | rfl <;> simp [five] at hj <;> subst hj
  · exact c0
  · exact c1
  · exact c2
  · exact c3
  · exact c4
def InPost (w : World) (x : Fil) (e : Ending) (w' : World) : Prop := ∃ (g : Nat) (c : Nat), e = .returned (.slice (some ⟨g, 0, none⟩) 1 c) ∧ FRow w' (some ⟨g, 0, none⟩) [x] ∧ Below w.heap.size w w'
set_option maxHeartbeats 1000000 in
theorem insert_one {w : World} {g : Nat} {x : Fil} (h : FBox w g x) : Calls Tryd.prog 35 #[.slice none 0 0, .int .i64 0, .slice (some ⟨g, 0, none⟩) 1 1] w (InPost w x) := by
  obtain ⟨i0, hi, hz0, hz1, hz2⟩ := info_parts infoFile
  have HI := Lib.hid (And.intro hi (And.intro hz0 (And.intro hz1 hz2)))
  clear hi hz0 hz1 hz2
  have hgl : g < w.heap.size := cell_lt (p := ⟨g, 0, none⟩) h.1
  have HX := Lib.hid (fbox_cells h)
  clear h
  go_enter Tryd.func35, Tryd.ntmps35
  go_wp2_with (at_builtin
               refine wpList_append_lies _ rfl _ _ 22 rfl w.heap.size 34 i0 _ 5 56 Tryd.underlying22 HI.out.1 HI.out.2.1 HI.out.2.2.1 HI.out.2.2.2 rfl (by decide) (.slice none 0 0) 0 [] rfl (World.ownsRow_nil _ _ _ _) ⟨g, 0, none⟩ 1 1 (five x) rfl rfl HX.out (by simp [five, Value.oneCell']) (by omega) (by unfold maxLen; omega) (by omega) (by omega) w.heap.size (by omega) ?_
               intro g2 cap w8 hown8 hgrow8 hwhere hlt8
               have HE := Lib.hid (And.intro hown8 hgrow8)
               clear hown8 hgrow8 hwhere hlt8)
  go_ret
  have hr := frow_of (l := [x]) (by simpa [fCells] using HE.out.1)
  obtain ⟨A, c, hv, hf⟩ := hr
  injection hv with hv
  subst hv
  exact ⟨g2, cap, rfl, hf, ⟨HE.out.2.os, HE.out.2.tape, HE.out.2.output, HE.out.2.size, fun i hi => HE.out.2.block i hi (by simp [Value.ownBlock])⟩⟩
theorem six_new {w : World} {x0 x1 x2 x3 x4 x5 : Value} {t : TypeId} {W : World} (h : Below (w.alloc (.cells #[x0, x1, x2, x3, x4, x5] t)).heap.size (w.alloc (.cells #[x0, x1, x2, x3, x4, x5] t)) W) :
    W.cell? ⟨w.heap.size, 0, none⟩ = some x0 ∧ W.cell? ⟨w.heap.size, 1, none⟩ = some x1 ∧ W.cell? ⟨w.heap.size, 2, none⟩ = some x2 ∧ W.cell? ⟨w.heap.size, 3, none⟩ = some x3 ∧ W.cell? ⟨w.heap.size, 4, none⟩ = some x4 ∧ W.cell? ⟨w.heap.size, 5, none⟩ = some x5 := by
  have h1 : W.heap[w.heap.size]? = some (.cells #[x0, x1, x2, x3, x4, x5] t (0, 0)) := (h.block _ (by simp)).trans (MapKept.heap_alloc w _).1
  exact ⟨cell_in h1 0 _ rfl, cell_in h1 1 _ rfl, cell_in h1 2 _ rfl, cell_in h1 3 _ rfl, cell_in h1 4 _ rfl, cell_in h1 5 _ rfl⟩
theorem one_then {w W : World} {o : Obj} (h : Below (w.alloc o).heap.size (w.alloc o) W) : Below w.heap.size w W := ((Below.refl _ _).alloc (Nat.le_refl _) o).trans (h.mono (by simp))
set_option maxHeartbeats 1000000 in
theorem put_one (k : Int) (x : Fil) (hl : x.least.size ≤ 281474976710656) (hm : x.most.size ≤ 281474976710656) (w : World) :
    Calls Tryd.prog 25 #[.slice none 0 0, .agg #[.int .i64 k, .int .u64 x.number, .int .u64 x.size, .int .u64 x.count, .string x.least, .string x.most]] w (InPost w x) := by
  have HO := Lib.hid (own_any x hl hm)
  have HI := Lib.hid fun f W => index_none f W
  have HP := Lib.hid fun (W : World) (g : Nat) (h : FBox W g x) => insert_one h
  have HF := Lib.hid fun W : World => fcells_new W x
  unfold fval at HO
  go_enter Tryd.func25, Tryd.ntmps25
  go_wp2_with (first
    | (go_at_call 22; (with_reducible refine (HI.out _ _).mono ?_); rintro e w2 ⟨rfl, hb2⟩; obtain ⟨c0, c1, c2, c3, c4, c5⟩ := six_new hb2; have B2 := Lib.hid (one_then hb2); clear hb2)
    | (go_at_call 17; (with_reducible refine (HO.out _).mono ?_); rintro e w3 ⟨rfl, hb3⟩; have B3 := Lib.hid hb3; clear hb3)
    | (go_at_call 35; (with_reducible refine (HP.out _ _ (HF.out _)).mono ?_); rintro e w4 ⟨g4, c, rfl, hf4, hb4⟩; have B4 := Lib.hid (And.intro hf4 (one_then hb4)); clear hf4 hb4))
  go_ret
  exact ⟨g4, c, rfl, B4.out.1, (B2.out.trans (B3.out.mono B2.out.size)).trans (B4.out.2.mono (Nat.le_trans B2.out.size B3.out.size))⟩
def ZRel (W : World) (i : Value) (wr : World) : Prop := ∃ k : Nat, k ≤ 4 ∧ i = .int .i64 (k : Nat) ∧ wr = W
abbrev zobj : Obj := .cells #[.slice none 0 0, .slice none 0 0, .slice none 0 0, .slice none 0 0] 26
theorem own_zero (w : World) : Calls Tryd.prog 21 #[zv] w (QPost w zv) := by
  have hb := three_below w zobj zobj zobj
  have e2 : ((w.alloc zobj).alloc zobj).heap.size = w.heap.size + 2 := by simp
  have hg2 : (((w.alloc zobj).alloc zobj).alloc zobj).heap[w.heap.size + 1]? = some (.cells #[.slice none 0 0, .slice none 0 0, .slice none 0 0, .slice none 0 0] 26 (0, 0)) := by
    rw [(MapKept.heap_alloc ((w.alloc zobj).alloc zobj) _).2 _ (by omega), show w.heap.size + 1 = (w.alloc zobj).heap.size by simp]
    exact (MapKept.heap_alloc (w.alloc zobj) _).1
  replace hg2 := Lib.hid hg2
  replace hb := Lib.hid hb
  go_enter Tryd.func21, Tryd.ntmps21
  go_wp2
  go_loopw [10] (ZRel (((w.alloc zobj).alloc zobj).alloc zobj)) (fun i _ => 4 - (intOf i).toNat)
  case atStart => exact ⟨0, by omega, rfl, rfl⟩
  case round =>
    obtain ⟨k, hk, rfl, rfl⟩ := hrel
    by_cases hlt : k < 4
    · have hi : ∀ W : World, (Instr.index 24 (.agg #[.slice none 0 0, .slice none 0 0, .slice none 0 0, .slice none 0 0]) (.int .i64 (k : Int))).run Tryd.prog W = .ok (.slice none 0 0) W := fun W => idx_any (fun _ => []) (fun _ => none) (fun _ => 0) hlt W
      have h4 : (k : Int) < 4 := by omega
      go_wp2
      go_loopw [16] (fun i wr => i = .int .i64 0 ∧ wr = ((w.alloc zobj).alloc zobj).alloc zobj) (fun _ _ => 0)
      case atStart => exact ⟨rfl, rfl⟩
      case round =>
        obtain ⟨rfl, rfl⟩ := hrel
        go_wp2
        go_roundw
        case rel => exact ⟨k + 1, by omega, by go_num, rfl⟩
        case measure => simp [intOf]; omega
    · have hk4 : k = 4 := by omega
      subst hk4
      go_wp2
      exact ret_ver rfl rfl rfl (cell_in hg2.out 0 _ rfl) (cell_in hg2.out 1 _ rfl) (cell_in hg2.out 2 _ rfl) (cell_in hg2.out 3 _ rfl) ⟨rfl, hb.out⟩
end Go.Proofs.YtkocekogkpemiaaDoor.Ve
