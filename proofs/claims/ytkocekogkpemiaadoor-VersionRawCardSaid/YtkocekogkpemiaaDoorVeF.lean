/-
  The document's own versions, walked: Right. Conditions: as each theorem states.
-/
import Derived.Test.YtkocekogkpemiaaDoorVeE
import Derived.Deep.AppendLies
import Derived.Deep.RegionHeld3
import Derived.Maps.AppendAt
namespace Go.Proofs.YtkocekogkpemiaaDoor.Ve
open Go.RowKit
open Go.Proofs.YtkocekogkpemiaaDoor
open Vi Ba Ed

theorem infoU : (Tryd.prog.info? 32).map (fun i => (i.zero, i.size, i.bytes)) = some (some (.int .u64 0), 1, 8) := by kernel_rfl
def nCells (N : List Nat) : List Value := N.map fun n : Nat => Value.int .u64 (n : Int)
theorem nCells_snoc (N : List Nat) (n : Nat) : nCells (N ++ [n]) = nCells N ++ [.int .u64 (n : Int)] := by simp [nCells]
def NRow (W : World) (ao : Option Addr) (N : List Nat) : Prop := 0 < N.length → ∃ a, ao = some a ∧ a.block < W.heap.size ∧ ∀ i (hi : i < N.length), W.cell? (a.add i) = some (.int .u64 (N[i] : Int))
theorem nrow_of {w : World} {B : Nat} {t : TypeId} {v : Value} {l : List Nat} (h : w.ownsRow B t 1 v l.length (nCells l)) :
    ∃ A c, v = .slice A l.length c ∧ NRow w A l := by
  have hc := fun g hg => h.cells (g := g) hg
  rcases h.2 with ⟨rfl, h0⟩ | ⟨g, cap, cur, rfl, hb, hg, _⟩
  · exact ⟨none, 0, by rw [h0], fun h1 => by omega⟩
  · refine ⟨some ⟨g, 0, none⟩, cap, rfl, fun _ => ⟨_, rfl, (Array.getElem?_eq_some_iff.1 hg).1, fun i hi => ?_⟩⟩
    have := hc g rfl i (.int .u64 (l[i] : Int)) (by simp [nCells, hi])
    exact this
/-- the document's Right under way: the version's box, the numbers seen -/
structure Rs (w : World) (o : Obj) (vs : Value) (N : List Nat) (W : World) : Prop where
  below : Below w.heap.size w W
  box : W.heap[w.heap.size]? = some o
  own : W.ownsRow (w.heap.size + 1) 32 1 vs N.length (nCells N)
section
variable {w : World} {o : Obj} {vs : Value} {N : List Nat} {W W' : World}
theorem Rs.lt (h : Rs w o vs N W) : w.heap.size < W.heap.size := (Array.getElem?_eq_some_iff.1 h.box).1
theorem rs_on (h : Rs w o vs N W) (hb : Below W.heap.size W W') : Rs w o vs N W' :=
  ⟨h.below.trans (hb.mono h.below.size), (hb.block _ h.lt).trans h.box, h.own.kept (row := none) (grown_below hb _) (Classical.em _)⟩
theorem rs_new (h : Rs w o vs N W) (x : Obj) : Rs w o vs N (W.alloc x) := rs_on h ((Below.refl _ _).alloc (Nat.le_refl _) x)
theorem rs_start (w : World) (c : Array Value) (t : TypeId) : Rs w (.cells c t (0, 0)) (.slice none 0 0) [] (w.alloc (.cells c t)) :=
  ⟨(Below.refl _ _).alloc (Nat.le_refl _) _, (MapKept.heap_alloc w _).1, World.ownsRow_nil _ _ _ _⟩
theorem rs_put (h : Rs w o vs N W) {v2 : Value} {n : Nat} (hg : W.grownBy W' vs.ownBlock) (ho : W'.ownsRow (w.heap.size + 1) 32 1 v2 (N.length + 1) (nCells N ++ [.int .u64 (n : Int)])) : Rs w o v2 (N ++ [n]) W' := by
  have hl := fun k hk => (h.own.lt k hk).1
  refine ⟨⟨hg.os.trans h.below.os, hg.tape.trans h.below.tape, hg.output.trans h.below.output, Nat.le_trans h.below.size hg.size, fun i hi => (hg.block i (by have := h.below.size; omega) (fun e => by have := hl i e.symm; omega)).trans (h.below.block i hi)⟩, (hg.block _ h.lt (fun e => by have := hl _ e.symm; omega)).trans h.box, ?_⟩
  rw [nCells_snoc, List.length_append]
  exact ho
theorem fbox_far (h : Rs w o vs N W) {x : Fil} {n : Nat} (hn : W.heap.size ≤ n) {W1 : World} (hF : FBox W1 n x) (hg : W1.grownBy W' vs.ownBlock) : FBox W' n x := by
  have hl := fun k hk => (h.own.lt k hk).2
  obtain ⟨c0, c1, c2, c3, c4⟩ := hF
  have hn1 : n < W1.heap.size := cell_lt (p := ⟨n, 0, none⟩) c0
  have hne : some n ≠ vs.ownBlock := fun e => by have := hl n e.symm; omega
  have k : ∀ j : Nat, W'.cell? ⟨n, j, none⟩ = W1.cell? ⟨n, j, none⟩ := fun j => hg.cell_far ⟨n, j, none⟩ hn1 hne
  exact ⟨(k 0).trans c0, (k 1).trans c1, (k 2).trans c2, (k 3).trans c3, (k 4).trans c4⟩
end
theorem two_at (w : World) (o : Obj) (x : Fil) : ARow ((w.alloc o).alloc (.cells #[.int .i64 x.level, .int .u64 x.number, .int .u64 x.size, .int .u64 x.count, .string x.least, .string x.most] 58)) (some ⟨w.heap.size + 1, 0, none⟩) [x] := fun _ => by
  refine ⟨_, rfl, by simp, fun i hi => ?_⟩
  have : i = 0 := by simpa using hi
  subst this
  have h := heap_alloc_new (w.alloc o) (.cells #[.int .i64 x.level, .int .u64 x.number, .int .u64 x.size, .int .u64 x.count, .string x.least, .string x.most] 58)
  rw [show (w.alloc o).heap.size = w.heap.size + 1 by simp] at h
  exact ⟨cell_in h 0 _ rfl, cell_in h 1 _ rfl, cell_in h 2 _ rfl, cell_in h 3 _ rfl, cell_in h 4 _ rfl, cell_in h 5 _ rfl⟩
theorem vcells {L : Nat → List Fil} {A : Nat → Option Addr} {C : Nat → Nat} {W : World} {b : Nat} {t : TypeId} (h : W.heap[b]? = some (.cells #[.slice (A 0) (L 0).length (C 0), .slice (A 1) (L 1).length (C 1), .slice (A 2) (L 2).length (C 2), .slice (A 3) (L 3).length (C 3)] t (0, 0))) {k : Nat} (hk : k < 4) :
    W.cell? ⟨b, k, none⟩ = some (.slice (A k) (L k).length (C k)) := by
  rcases (by omega : k = 0 ∨ k = 1 ∨ k = 2 ∨ k = 3) with rfl | rfl | rfl | rfl
  · exact cell_in h 0 _ rfl
  · exact cell_in h 1 _ rfl
  · exact cell_in h 2 _ rfl
  · exact cell_in h 3 _ rfl
theorem three_box (w : World) (x : Fil) (o p : Obj) : FBox (((w.alloc (.cells #[.int .u64 x.number, .int .u64 x.size, .int .u64 x.count, .string x.least, .string x.most] 51)).alloc o).alloc p) w.heap.size x := by
  have h := heap_alloc_new w (.cells #[.int .u64 x.number, .int .u64 x.size, .int .u64 x.count, .string x.least, .string x.most] 51)
  have hF : FBox (w.alloc (.cells #[.int .u64 x.number, .int .u64 x.size, .int .u64 x.count, .string x.least, .string x.most] 51)) w.heap.size x := ⟨cell_in h 0 _ rfl, cell_in h 1 _ rfl, cell_in h 2 _ rfl, cell_in h 3 _ rfl, cell_in h 4 _ rfl⟩
  exact fbox_next (fbox_next hF ((Below.refl _ _).alloc (Nat.le_refl _) o)) ((Below.refl _ _).alloc (Nat.le_refl _) p)
theorem three_below (W : World) (a b c : Obj) : Below W.heap.size W (((W.alloc a).alloc b).alloc c) :=
  (two_new W a b).alloc (two_new W a b).size c
theorem three_then {W W' : World} {a b c : Obj} (h : Below (((W.alloc a).alloc b).alloc c).heap.size (((W.alloc a).alloc b).alloc c) W') : Below W.heap.size W W' := (three_below W a b c).trans (h.mono (three_below W a b c).size)
theorem drewn {B : Nat} {w W : World} (h : Below B w W) : Below B w W.drew := ⟨h.os, h.tape, h.output, h.size, h.block⟩
theorem geq_str (x y : ByteArray) (t : TypeId) (W : World) : (binOp .geq t (.string x) (.string y)).run Tryd.prog W = .ok (.bool (!Op.bytesLess x.toList y.toList)) W := by
  have e : binOp .geq t (.string x) (.string y) = pure (.bool !Op.bytesLess x.toList y.toList) := by simp [binOp, Op.stringOp]
  rw [e]; rfl
theorem rone_any {i : Nat} {x : Fil} {b : Nat} {W : World} (hi : i < 4) (ho : x.ok) (h : ARow W (some ⟨b, 0, none⟩) [atl i x]) :
    Calls Tryd.prog 14 #[.agg #[.int .u64 0, .int .u64 0, .int .u64 0, .slice (some ⟨b, 0, none⟩) 1 1, .slice none 0 0]] W (QPost W (.int .i64 (chkA (atl i x)))) := by
  have hok := atl_ok ho hi
  have := rcheck_any (e := ⟨0, 0, 0, [atl i x], []⟩) 1 0 (w := W) (A := some ⟨b, 0, none⟩) (G := none)
    ⟨h, grow_nil _ _, ⟨by show (0 : Nat) < _; omega, by show (0 : Nat) < _; omega, by show (0 : Nat) < _; omega, fun a ha => by rw [List.mem_singleton] at ha; subst ha; exact hok, fun g hg => by cases hg⟩, by simp, by simp⟩
  rw [chkE_one] at this
  exact this
theorem nrow_on {W W' : World} {ao : Option Addr} {N : List Nat} (h : NRow W ao N) (hb : Below W.heap.size W W') : NRow W' ao N := fun h0 => by
  obtain ⟨a, rfl, h1, h2⟩ := h h0
  have := hb.size
  exact ⟨a, rfl, by omega, fun i hi => (hb.cell (p := a.add i) (by rw [block_add]; exact h1)).trans (h2 i hi)⟩
theorem rnums_le {L : Nat → List Fil} (hL : ∀ i, i < 4 → (L i).length ≤ 100000) (k : Nat) (hk : k ≤ 4) : (nums L k).length ≤ k * 100000 := nums_le hL k hk
def OQ (w : World) (o : Obj) (L : Nat → List Fil) (s i : Value) (wr : World) : Prop := ∃ k : Nat, k ≤ 4 ∧ i = .int .i64 (k : Nat) ∧ Rs w o s (nums L k) wr ∧ (∀ i, i < k → ∀ n, okF i (L i) n) ∧ (nums L k).Nodup
def IQ (w : World) (o : Obj) (L : Nat → List Fil) (k : Nat) (s i : Value) (wr : World) : Prop := ∃ j : Nat, j ≤ (L k).length ∧ i = .int .i64 (j : Nat) ∧ Rs w o s (part L k j) wr ∧ (∀ n, n < j → okF k (L k) n) ∧ (part L k j).Nodup
def NQ (W : World) (N : List Nat) (x : Nat) (i : Value) (wr : World) : Prop := ∃ m : Nat, m ≤ N.length ∧ i = .int .i64 (m : Nat) ∧ wr = W ∧ ∀ q (hq : q < N.length), q < m → ¬ N[q] = x
abbrev vobj (L : Nat → List Fil) (A : Nat → Option Addr) (C : Nat → Nat) : Obj := .cells #[.slice (A 0) (L 0).length (C 0), .slice (A 1) (L 1).length (C 1), .slice (A 2) (L 2).length (C 2), .slice (A 3) (L 3).length (C 3)] 30 (0, 0)
set_option maxHeartbeats 4000000 in
set_option maxRecDepth 100000 in
theorem rright_any {w : World} (L : Nat → List Fil) (A : Nat → Option Addr) (C : Nat → Nat) (H : VLies w L A) :
    Calls Tryd.prog 7 #[vval L A C] w (RiPost w L) := by
  obtain ⟨i0, hi, hz0, hz1, hz2⟩ := info_parts infoU
  have HI := Lib.hid (And.intro hi (And.intro hz0 (And.intro hz1 hz2)))
  clear hi hz0 hz1 hz2
  have HL := Lib.hid H.len
  have HO := Lib.hid H.ok
  have HR := Lib.hid H.row
  clear H
  unfold vval at *
  go_enter Tryd.func7, Tryd.ntmps7
  go_wp2
  go_loopw [3, 4] (OQ w (vobj L A C) L) (fun _ i _ => 4 - (intOf i).toNat)
  case atStart => exact ⟨0, by omega, rfl, rs_start w _ _, fun i hi => by omega, List.nodup_nil⟩
  case round =>
    obtain ⟨k, hk, rfl, hrs, hall, hnd⟩ := hrel
    by_cases hlt : k < 4
    · have hv := vcells hrs.box hlt
      have h2 := HL.out k hlt
      have h4 : (k : Int) < 4 := by omega
      replace hrs := Lib.hid hrs
      replace hall := Lib.hid hall
      replace hnd := Lib.hid hnd
      have hRk := Lib.hid (HR.out k hlt)
      generalize A k = ak at *
      go_wp2
      go_loopw [3, 21] (IQ w (vobj L A C) L k) (fun _ i _ => (L k).length - (intOf i).toNat)
      case atStart => exact ⟨0, by omega, rfl, by rw [part_zero]; exact hrs.out, fun n hn => by omega, by rw [part_zero]; exact hnd.out⟩
      case round =>
        clear hrs hnd hv
        obtain ⟨j, hj, rfl, hrs, hnow, hnd⟩ := hrel
        replace hnd := Lib.hid hnd
        replace hnow := Lib.hid hnow
        by_cases hlj : j < (L k).length
        · obtain ⟨a, rfl, hab, hca⟩ := hRk.out (by omega)
          have hbl : (a.add (j * 5)).block < w.heap.size := by rw [block_add]; exact hab
          obtain ⟨x0, x1, x2, x3, x4⟩ := (hca j hlj).on hbl hrs.below
          have hx := Lib.hid (HO.out k hlt _ (List.getElem_mem hlj))
          replace hrs := Lib.hid hrs
          generalize hy : (L k)[j] = y at *
          obtain ⟨A3, c3, rfl, hnr⟩ := nrow_of hrs.out.own
          have hlp : (part L k j).length ≤ 400000 := by
            have e1 := rnums_le HL.out k hk
            unfold part
            rw [List.length_append, List.length_map, List.length_take]
            omega
          have AR := two_at wr (.cells #[.int .u64 y.number, .int .u64 y.size, .int .u64 y.count, .string y.least, .string y.most] 51) (atl k y)
          replace AR := Lib.hid (AR.on (W' := ((wr.alloc (.cells #[.int .u64 y.number, .int .u64 y.size, .int .u64 y.count, .string y.least, .string y.most] 51)).alloc (.cells #[.int .i64 k, .int .u64 y.number, .int .u64 y.size, .int .u64 y.count, .string y.least, .string y.most] 58)).alloc (.cells #[.int .u64 0, .int .u64 0, .int .u64 0, .slice (some ⟨wr.heap.size + 1, 0, none⟩) 1 1, .slice none 0 0] 62)) ((Below.refl _ _).alloc (Nat.le_refl _) _))
          have HC := Lib.hid fun (W : World) (h : ARow W (some ⟨wr.heap.size + 1, 0, none⟩) [atl k y]) => rone_any hlt hx.out h
          have X1 := Lib.hid (three_box wr y (.cells #[.int .i64 k, .int .u64 y.number, .int .u64 y.size, .int .u64 y.count, .string y.least, .string y.most] 58) (.cells #[.int .u64 0, .int .u64 0, .int .u64 0, .slice (some ⟨wr.heap.size + 1, 0, none⟩) 1 1, .slice none 0 0] 62))
          have R1 := Lib.hid (rs_new (rs_new (rs_new hrs.out (.cells #[.int .u64 y.number, .int .u64 y.size, .int .u64 y.count, .string y.least, .string y.most] 51)) (.cells #[.int .i64 k, .int .u64 y.number, .int .u64 y.size, .int .u64 y.count, .string y.least, .string y.most] 58)) (.cells #[.int .u64 0, .int .u64 0, .int .u64 0, .slice (some ⟨wr.heap.size + 1, 0, none⟩) 1 1, .slice none 0 0] 62))
          replace hnr := Lib.hid hnr
          have hNn := Lib.hid (fun (h : y.number ∈ part L k j) => right_twice hlt hlj (by rw [hy]; exact h))
          have hno := Lib.hid (fun (h : ¬ chkA (atl k y) = 0) => right_not hlt (L := L) (j := j) fun e => h (by have := (e hlj).1; rw [hy] at this; exact this))
          have hpn := Lib.hid (part_next L k hlj)
          have hnx := Lib.hid (fun (h : y.number ∉ part L k j) => part_nodup hlj hnd.out (by rw [hy]; exact h))
          replace hlp := Lib.hid hlp
          generalize hN : part L k j = N at *
          by_cases hc : chkA (atl k y) = 0
          · rw [hc] at HC
            have hcc := Lib.hid hc
            clear hc hno
            replace HC := Lib.hid HC.out
            go_wp2_with (go_at_call 14; (with_reducible refine (HC.out _ AR.out).mono ?_); rintro e w2 ⟨rfl, hb2⟩; have B2 := Lib.hid hb2; obtain ⟨f0, f1, f2, f3, f4⟩ := fbox_next X1.out hb2; clear hb2)
            have R2 := Lib.hid (rs_on R1.out B2.out)
            have NR2 := Lib.hid (nrow_on hnr.out (three_then B2.out))
            have X2 := Lib.hid (show FBox w2 wr.heap.size y from ⟨f0, f1, f2, f3, f4⟩)
            clear f1 f2 f3 f4
            go_loopw [36] (NQ w2 N y.number) (fun i _ => N.length - (intOf i).toNat)
            case atStart => exact ⟨0, by omega, rfl, rfl, fun q _ hq => by omega⟩
            case round =>
              obtain ⟨m, hm, rfl, hwr, hseen⟩ := hrel
              cases hwr
              replace hseen := Lib.hid hseen
              have hl0 := hlp.out
              by_cases hlm : m < N.length
              · obtain ⟨b, rfl, hbb, hcb⟩ := NR2.out (by omega)
                have hcm := hcb m hlm
                have hnm : N[m] ∈ N := List.getElem_mem hlm
                clear hcb
                by_cases he : N[m] = y.number
                · rw [he] at hcm hnm
                  have hnr2 := Lib.hid (hNn.out hnm)
                  clear hnm he
                  go_wp2
                  go_ret
                  exact ⟨⟨false, rfl, by simp [hnr2.out]⟩, R2.out.below⟩
                · have hn2 : Hid (∀ q (hq : q < N.length), q < m + 1 → ¬ N[q] = y.number) := fun q hq hqm => by
                    by_cases e : q = m
                    · subst e; exact he
                    · exact hseen.out q hq (by omega)
                  have he3 : ¬ (N[m] : Int) = (y.number : Int) := fun h => he (by exact_mod_cast h)
                  have he2 : ((N[m] : Int) == (y.number : Int)) = false := beq_eq_false_iff_ne.2 he3
                  clear hnm he
                  generalize N[m] = z at *
                  go_wp2
                  go_roundw
                  case rel => exact ⟨m + 1, by omega, by go_num, rfl, hn2.out⟩
                  case measure => simp [intOf]; omega
              · have hm2 : m = N.length := by omega
                have hni : y.number ∉ N := fun h => by
                  obtain ⟨q, hq, e⟩ := List.getElem_of_mem h
                  exact hseen.out q hq (by omega) e
                replace hnx := Lib.hid (hnx.out hni)
                subst hm2
                clear hni hseen hNn
                have hw2 := R2.out.lt
                go_wp2_with (first
                  | (at_builtin
                     refine wpList_append_lies _ rfl _ _ 56 rfl (w.heap.size + 1) 32 i0 _ 1 8 Tryd.underlying56 HI.out.1 HI.out.2.1 HI.out.2.2.1 HI.out.2.2.2 rfl (by decide) (.slice A3 N.length c3) N.length (nCells N) rfl (R2.out.own.alloc _) ⟨w2.heap.size, 0, none⟩ 1 1 [.int .u64 y.number] rfl rfl (cell_one_new _ _ _) (by simp [Value.oneCell']) (by omega) (by unfold maxLen; omega) (by omega) (by simp; omega) (w2.heap.size + 1) (by simp) ?_
                     intro g cap w8 hown8 hgrow8 hwhere hlt8
                     have HE := Lib.hid (And.intro hown8 hgrow8)
                     clear hown8 hgrow8 hwhere hlt8))
                have R8 := Lib.hid (rs_put (rs_new R2.out (.cells #[.int .u64 y.number] 32)) HE.out.2 HE.out.1)
                have X8 := Lib.hid (fbox_far hrs.out (Nat.le_refl _) (fbox_next X2.out ((Below.refl _ _).alloc (Nat.le_refl _) (.cells #[.int .u64 y.number] 32))) HE.out.2)
                clear HE
                generalize wr.heap.size = n1 at *
                have htl : ∀ s : ByteArray, s.toList = s.data.toList := fun s => Lib.toList_data s
                rcases j with _ | j
                · have hok := Lib.hid (okF_of hlj (by rw [hy]; exact hcc.out) (fun h0 => by omega))
                  refine wp_region_noPanic ?_
                  refine wp_region_held_drew (S := (fun wx => FBox wx n1 y)) (by kernel_rfl) (X8.out) (fun HS => ?_)
                  refine wpAnyH_take (S := (fun wx => FBox wx n1 y)) (i := 0) (oi := { dst := some 50, op := Go.Op.move (Go.Operand.tmp 6), type := 3, pos := "ref.go:50", after := #[], guard := none }) (v := ?va0) rfl (by kernel_rfl) (by kernel_rfl) (by kernel_rfl) (fun _ _ _ h => h) (Or.inl ⟨by rfl, ?ya0⟩) HS ?ra0
                  case ya0 => (intro w hSw; obtain ⟨s0, s1, s2, s3, s4⟩ := hSw; go_simp; first | done | with_reducible rfl | exact hwj | (intro hh; omega) | omega | simp [hkz] | simp [hge, hm2] | simp [hm3] | skip)
                  try simp only [Act.put, List.setIfInBounds_toArray, List.set_cons_zero, List.set_cons_succ]
                  refine wpAnyH_take (S := (fun wx => FBox wx n1 y)) (i := 1) (oi := { dst := some 51, op := Go.Op.binOp Go.BinOp.gtr 3 (Go.Operand.tmp 50) (Go.Operand.const (Go.Value.int Go.IntKind.i64 0)) 3, type := 4, pos := "ref.go:50", after := #[{ on := 0, ground := Go.Ground.data }], guard := none }) (v := .bool false) rfl (by kernel_rfl) (by kernel_rfl) (by kernel_rfl) (fun _ _ _ h => h) (Or.inl ⟨by rfl, ?ya1⟩) HS ?ra1
                  case ya1 => (intro w hSw; obtain ⟨s0, s1, s2, s3, s4⟩ := hSw; go_simp; first | done | with_reducible rfl | exact hwj | (intro hh; omega) | omega | simp [hkz] | simp [hge, hm2] | simp [hm3] | skip)
                  try simp only [Act.put, List.setIfInBounds_toArray, List.set_cons_zero, List.set_cons_succ]
                  refine wpAnyH_take (S := (fun wx => FBox wx n1 y)) (i := 2) (oi := { dst := some 52, op := Go.Op.move (Go.Operand.tmp 51), type := 4, pos := "ref.go:50", after := #[{ on := 1, ground := Go.Ground.data }], guard := none }) (v := .bool false) rfl (by kernel_rfl) (by kernel_rfl) (by kernel_rfl) (fun _ _ _ h => h) (Or.inl ⟨by rfl, ?ya2⟩) HS ?ra2
                  case ya2 => (intro w hSw; obtain ⟨s0, s1, s2, s3, s4⟩ := hSw; go_simp; first | done | with_reducible rfl | exact hwj | (intro hh; omega) | omega | simp [hkz] | simp [hge, hm2] | simp [hm3] | skip)
                  try simp only [Act.put, List.setIfInBounds_toArray, List.set_cons_zero, List.set_cons_succ]
                  refine wpAnyH_take (S := (fun wx => FBox wx n1 y)) (i := 3) (oi := { dst := some 53, op := Go.Op.move (Go.Operand.tmp 4), type := 3, pos := "ref.go:50", after := #[{ on := 2, ground := Go.Ground.guard }], guard := some (2, true) }) (v := undef) rfl (by kernel_rfl) (by kernel_rfl) (by kernel_rfl) (fun _ _ _ h => h) (Or.inr ⟨by rfl, rfl⟩) HS ?ra3
                  try simp only [Act.put, List.setIfInBounds_toArray, List.set_cons_zero, List.set_cons_succ]
                  refine wpAnyH_take (S := (fun wx => FBox wx n1 y)) (i := 4) (oi := { dst := some 54, op := Go.Op.move (Go.Operand.tmp 5), type := 27, pos := "ref.go:50", after := #[{ on := 2, ground := Go.Ground.guard }], guard := some (2, true) }) (v := undef) rfl (by kernel_rfl) (by kernel_rfl) (by kernel_rfl) (fun _ _ _ h => h) (Or.inr ⟨by rfl, rfl⟩) HS ?ra4
                  try simp only [Act.put, List.setIfInBounds_toArray, List.set_cons_zero, List.set_cons_succ]
                  refine wpAnyH_take (S := (fun wx => FBox wx n1 y)) (i := 5) (oi := { dst := some 55, op := Go.Op.move (Go.Operand.tmp 6), type := 3, pos := "ref.go:50", after := #[{ on := 2, ground := Go.Ground.guard }], guard := some (2, true) }) (v := undef) rfl (by kernel_rfl) (by kernel_rfl) (by kernel_rfl) (fun _ _ _ h => h) (Or.inr ⟨by rfl, rfl⟩) HS ?ra5
                  try simp only [Act.put, List.setIfInBounds_toArray, List.set_cons_zero, List.set_cons_succ]
                  refine wpAnyH_take (S := (fun wx => FBox wx n1 y)) (i := 6) (oi := { dst := some 56, op := Go.Op.binOp Go.BinOp.sub 3 (Go.Operand.tmp 55) (Go.Operand.const (Go.Value.int Go.IntKind.i64 1)) 3, type := 3, pos := "ref.go:50", after := #[{ on := 5, ground := Go.Ground.data }, { on := 2, ground := Go.Ground.guard }], guard := some (2, true) }) (v := undef) rfl (by kernel_rfl) (by kernel_rfl) (by kernel_rfl) (fun _ _ _ h => h) (Or.inr ⟨by rfl, rfl⟩) HS ?ra6
                  try simp only [Act.put, List.setIfInBounds_toArray, List.set_cons_zero, List.set_cons_succ]
                  refine wpAnyH_take (S := (fun wx => FBox wx n1 y)) (i := 7) (oi := { dst := some 57, op := Go.Op.indexAddr 27 (Go.Operand.tmp 54) (Go.Operand.tmp 56), type := 0, pos := "ref.go:50", after := #[{ on := 4, ground := Go.Ground.data }, { on := 6, ground := Go.Ground.data }, { on := 2, ground := Go.Ground.guard }], guard := some (2, true) }) (v := undef) rfl (by kernel_rfl) (by kernel_rfl) (by kernel_rfl) (fun _ _ _ h => h) (Or.inr ⟨by rfl, rfl⟩) HS ?ra7
                  try simp only [Act.put, List.setIfInBounds_toArray, List.set_cons_zero, List.set_cons_succ]
                  refine wpAnyH_take (S := (fun wx => FBox wx n1 y)) (i := 8) (oi := { dst := some 58, op := Go.Op.load 51 (Go.Operand.tmp 57), type := 51, pos := "ref.go:50", after := #[{ on := 7, ground := Go.Ground.data }, { on := 2, ground := Go.Ground.guard }], guard := some (2, true) }) (v := undef) rfl (by kernel_rfl) (by kernel_rfl) (by kernel_rfl) (fun _ _ _ h => h) (Or.inr ⟨by rfl, rfl⟩) HS ?ra8
                  try simp only [Act.put, List.setIfInBounds_toArray, List.set_cons_zero, List.set_cons_succ]
                  refine wpAnyH_take (S := (fun wx => FBox wx n1 y)) (i := 9) (oi := { dst := some 59, op := Go.Op.load 51 (Go.Operand.tmp 7), type := 51, pos := "ref.go:50", after := #[{ on := 2, ground := Go.Ground.guard }], guard := some (2, true) }) (v := undef) rfl (by kernel_rfl) (by kernel_rfl) (by kernel_rfl) (fun _ _ _ h => h) (Or.inr ⟨by rfl, rfl⟩) HS ?ra9
                  try simp only [Act.put, List.setIfInBounds_toArray, List.set_cons_zero, List.set_cons_succ]
                  refine wpAnyH_take (S := (fun wx => FBox wx n1 y)) (i := 10) (oi := { dst := some 60, op := Go.Op.call { callee := Go.Callee.value (Go.Operand.func 15), args := #[Go.Operand.tmp 53, Go.Operand.tmp 58, Go.Operand.tmp 59], argTypes := #[3, 51, 51] }, type := 4, pos := "ref.go:50", after := #[{ on := 3, ground := Go.Ground.data }, { on := 8, ground := Go.Ground.data }, { on := 9, ground := Go.Ground.data }, { on := 2, ground := Go.Ground.chain }, { on := 2, ground := Go.Ground.guard }], guard := some (2, true) }) (v := undef) rfl (by kernel_rfl) (by kernel_rfl) (by kernel_rfl) (fun _ _ _ h => h) (Or.inr ⟨by rfl, rfl⟩) HS ?ra10
                  try simp only [Act.put, List.setIfInBounds_toArray, List.set_cons_zero, List.set_cons_succ]
                  refine wpAnyH_take (S := (fun wx => FBox wx n1 y)) (i := 11) (oi := { dst := some 61, op := Go.Op.unOp Go.UnOp.not 4 (Go.Operand.tmp 60), type := 4, pos := "ref.go:50", after := #[{ on := 10, ground := Go.Ground.data }, { on := 2, ground := Go.Ground.guard }], guard := some (2, true) }) (v := undef) rfl (by kernel_rfl) (by kernel_rfl) (by kernel_rfl) (fun _ _ _ h => h) (Or.inr ⟨by rfl, rfl⟩) HS ?ra11
                  try simp only [Act.put, List.setIfInBounds_toArray, List.set_cons_zero, List.set_cons_succ]
                  refine wpAnyH_take (S := (fun wx => FBox wx n1 y)) (i := 12) (oi := { dst := some 62, op := Go.Op.pick (Go.Operand.tmp 52) (Go.Operand.tmp 61) (Go.Operand.const (Go.Value.bool false)), type := 4, pos := "ref.go:50", after := #[{ on := 2, ground := Go.Ground.data }, { on := 11, ground := Go.Ground.data }], guard := none }) (v := .bool false) rfl (by kernel_rfl) (by kernel_rfl) (by kernel_rfl) (fun _ _ _ h => h) (Or.inl ⟨by rfl, ?ya12⟩) HS ?ra12
                  case ya12 => (intro w hSw; obtain ⟨s0, s1, s2, s3, s4⟩ := hSw; go_simp; first | done | with_reducible rfl | exact hwj | (intro hh; omega) | omega | simp [hkz] | simp [hge, hm2] | simp [hm3] | skip)
                  try simp only [Act.put, List.setIfInBounds_toArray, List.set_cons_zero, List.set_cons_succ]
                  refine wpAnyH_done (by kernel_rfl) ?_ _
                  refine NoPanic.normal ?_
                  go_wp2
                  refine wp_region_noPanic ?_
                  refine wp_region_held_drew (S := (fun wx => FBox wx n1 y)) (by kernel_rfl) (X8.out) (fun HS => ?_)
                  refine wpAnyH_take (S := (fun wx => FBox wx n1 y)) (i := 0) (oi := { dst := some 63, op := Go.Op.move (Go.Operand.tmp 6), type := 3, pos := "ref.go:53", after := #[], guard := none }) (v := ?vb0) rfl (by kernel_rfl) (by kernel_rfl) (by kernel_rfl) (fun _ _ _ h => h) (Or.inl ⟨by rfl, ?yb0⟩) HS ?rb0
                  case yb0 => (intro w hSw; obtain ⟨s0, s1, s2, s3, s4⟩ := hSw; go_simp; first | done | with_reducible rfl | exact hwj | (intro hh; omega) | omega | simp [hkz] | simp [hge, hm2] | simp [hm3] | skip)
                  try simp only [Act.put, List.setIfInBounds_toArray, List.set_cons_zero, List.set_cons_succ]
                  refine wpAnyH_take (S := (fun wx => FBox wx n1 y)) (i := 1) (oi := { dst := some 64, op := Go.Op.binOp Go.BinOp.gtr 3 (Go.Operand.tmp 63) (Go.Operand.const (Go.Value.int Go.IntKind.i64 0)) 3, type := 4, pos := "ref.go:53", after := #[{ on := 0, ground := Go.Ground.data }], guard := none }) (v := .bool false) rfl (by kernel_rfl) (by kernel_rfl) (by kernel_rfl) (fun _ _ _ h => h) (Or.inl ⟨by rfl, ?yb1⟩) HS ?rb1
                  case yb1 => (intro w hSw; obtain ⟨s0, s1, s2, s3, s4⟩ := hSw; go_simp; first | done | with_reducible rfl | exact hwj | (intro hh; omega) | omega | simp [hkz] | simp [hge, hm2] | simp [hm3] | skip)
                  try simp only [Act.put, List.setIfInBounds_toArray, List.set_cons_zero, List.set_cons_succ]
                  refine wpAnyH_take (S := (fun wx => FBox wx n1 y)) (i := 2) (oi := { dst := some 65, op := Go.Op.move (Go.Operand.tmp 64), type := 4, pos := "ref.go:53", after := #[{ on := 1, ground := Go.Ground.data }], guard := none }) (v := .bool false) rfl (by kernel_rfl) (by kernel_rfl) (by kernel_rfl) (fun _ _ _ h => h) (Or.inl ⟨by rfl, ?yb2⟩) HS ?rb2
                  case yb2 => (intro w hSw; obtain ⟨s0, s1, s2, s3, s4⟩ := hSw; go_simp; first | done | with_reducible rfl | exact hwj | (intro hh; omega) | omega | simp [hkz] | simp [hge, hm2] | simp [hm3] | skip)
                  try simp only [Act.put, List.setIfInBounds_toArray, List.set_cons_zero, List.set_cons_succ]
                  refine wpAnyH_take (S := (fun wx => FBox wx n1 y)) (i := 3) (oi := { dst := some 66, op := Go.Op.move (Go.Operand.tmp 4), type := 3, pos := "ref.go:53", after := #[{ on := 2, ground := Go.Ground.guard }], guard := some (2, true) }) (v := undef) rfl (by kernel_rfl) (by kernel_rfl) (by kernel_rfl) (fun _ _ _ h => h) (Or.inr ⟨by rfl, rfl⟩) HS ?rb3
                  try simp only [Act.put, List.setIfInBounds_toArray, List.set_cons_zero, List.set_cons_succ]
                  refine wpAnyH_take (S := (fun wx => FBox wx n1 y)) (i := 4) (oi := { dst := some 67, op := Go.Op.binOp Go.BinOp.gtr 3 (Go.Operand.tmp 66) (Go.Operand.const (Go.Value.int Go.IntKind.i64 0)) 3, type := 4, pos := "ref.go:53", after := #[{ on := 3, ground := Go.Ground.data }, { on := 2, ground := Go.Ground.guard }], guard := some (2, true) }) (v := undef) rfl (by kernel_rfl) (by kernel_rfl) (by kernel_rfl) (fun _ _ _ h => h) (Or.inr ⟨by rfl, rfl⟩) HS ?rb4
                  try simp only [Act.put, List.setIfInBounds_toArray, List.set_cons_zero, List.set_cons_succ]
                  refine wpAnyH_take (S := (fun wx => FBox wx n1 y)) (i := 5) (oi := { dst := some 68, op := Go.Op.pick (Go.Operand.tmp 65) (Go.Operand.tmp 67) (Go.Operand.const (Go.Value.bool false)), type := 4, pos := "ref.go:53", after := #[{ on := 2, ground := Go.Ground.data }, { on := 4, ground := Go.Ground.data }], guard := none }) (v := .bool false) rfl (by kernel_rfl) (by kernel_rfl) (by kernel_rfl) (fun _ _ _ h => h) (Or.inl ⟨by rfl, ?yb5⟩) HS ?rb5
                  case yb5 => (intro w hSw; obtain ⟨s0, s1, s2, s3, s4⟩ := hSw; go_simp; first | done | with_reducible rfl | exact hwj | (intro hh; omega) | omega | simp [hkz] | simp [hge, hm2] | simp [hm3] | skip)
                  try simp only [Act.put, List.setIfInBounds_toArray, List.set_cons_zero, List.set_cons_succ]
                  refine wpAnyH_take (S := (fun wx => FBox wx n1 y)) (i := 6) (oi := { dst := some 69, op := Go.Op.move (Go.Operand.tmp 68), type := 4, pos := "ref.go:53", after := #[{ on := 5, ground := Go.Ground.data }, { on := 2, ground := Go.Ground.chain }], guard := none }) (v := .bool false) rfl (by kernel_rfl) (by kernel_rfl) (by kernel_rfl) (fun _ _ _ h => h) (Or.inl ⟨by rfl, ?yb6⟩) HS ?rb6
                  case yb6 => (intro w hSw; obtain ⟨s0, s1, s2, s3, s4⟩ := hSw; go_simp; first | done | with_reducible rfl | exact hwj | (intro hh; omega) | omega | simp [hkz] | simp [hge, hm2] | simp [hm3] | skip)
                  try simp only [Act.put, List.setIfInBounds_toArray, List.set_cons_zero, List.set_cons_succ]
                  refine wpAnyH_take (S := (fun wx => FBox wx n1 y)) (i := 7) (oi := { dst := some 70, op := Go.Op.move (Go.Operand.tmp 5), type := 27, pos := "ref.go:53", after := #[{ on := 6, ground := Go.Ground.guard }], guard := some (6, true) }) (v := undef) rfl (by kernel_rfl) (by kernel_rfl) (by kernel_rfl) (fun _ _ _ h => h) (Or.inr ⟨by rfl, rfl⟩) HS ?rb7
                  try simp only [Act.put, List.setIfInBounds_toArray, List.set_cons_zero, List.set_cons_succ]
                  refine wpAnyH_take (S := (fun wx => FBox wx n1 y)) (i := 8) (oi := { dst := some 71, op := Go.Op.move (Go.Operand.tmp 6), type := 3, pos := "ref.go:53", after := #[{ on := 6, ground := Go.Ground.guard }], guard := some (6, true) }) (v := undef) rfl (by kernel_rfl) (by kernel_rfl) (by kernel_rfl) (fun _ _ _ h => h) (Or.inr ⟨by rfl, rfl⟩) HS ?rb8
                  try simp only [Act.put, List.setIfInBounds_toArray, List.set_cons_zero, List.set_cons_succ]
                  refine wpAnyH_take (S := (fun wx => FBox wx n1 y)) (i := 9) (oi := { dst := some 72, op := Go.Op.binOp Go.BinOp.sub 3 (Go.Operand.tmp 71) (Go.Operand.const (Go.Value.int Go.IntKind.i64 1)) 3, type := 3, pos := "ref.go:53", after := #[{ on := 8, ground := Go.Ground.data }, { on := 6, ground := Go.Ground.guard }], guard := some (6, true) }) (v := undef) rfl (by kernel_rfl) (by kernel_rfl) (by kernel_rfl) (fun _ _ _ h => h) (Or.inr ⟨by rfl, rfl⟩) HS ?rb9
                  try simp only [Act.put, List.setIfInBounds_toArray, List.set_cons_zero, List.set_cons_succ]
                  refine wpAnyH_take (S := (fun wx => FBox wx n1 y)) (i := 10) (oi := { dst := some 73, op := Go.Op.indexAddr 27 (Go.Operand.tmp 70) (Go.Operand.tmp 72), type := 0, pos := "ref.go:53", after := #[{ on := 7, ground := Go.Ground.data }, { on := 9, ground := Go.Ground.data }, { on := 6, ground := Go.Ground.guard }], guard := some (6, true) }) (v := undef) rfl (by kernel_rfl) (by kernel_rfl) (by kernel_rfl) (fun _ _ _ h => h) (Or.inr ⟨by rfl, rfl⟩) HS ?rb10
                  try simp only [Act.put, List.setIfInBounds_toArray, List.set_cons_zero, List.set_cons_succ]
                  refine wpAnyH_take (S := (fun wx => FBox wx n1 y)) (i := 11) (oi := { dst := some 74, op := Go.Op.fieldAddr 51 (Go.Operand.tmp 73) 4, type := 0, pos := "ref.go:53", after := #[{ on := 10, ground := Go.Ground.data }, { on := 6, ground := Go.Ground.guard }], guard := some (6, true) }) (v := undef) rfl (by kernel_rfl) (by kernel_rfl) (by kernel_rfl) (fun _ _ _ h => h) (Or.inr ⟨by rfl, rfl⟩) HS ?rb11
                  try simp only [Act.put, List.setIfInBounds_toArray, List.set_cons_zero, List.set_cons_succ]
                  refine wpAnyH_take (S := (fun wx => FBox wx n1 y)) (i := 12) (oi := { dst := some 75, op := Go.Op.load 9 (Go.Operand.tmp 74), type := 9, pos := "ref.go:53", after := #[{ on := 11, ground := Go.Ground.data }, { on := 6, ground := Go.Ground.guard }], guard := some (6, true) }) (v := undef) rfl (by kernel_rfl) (by kernel_rfl) (by kernel_rfl) (fun _ _ _ h => h) (Or.inr ⟨by rfl, rfl⟩) HS ?rb12
                  try simp only [Act.put, List.setIfInBounds_toArray, List.set_cons_zero, List.set_cons_succ]
                  refine wpAnyH_take (S := (fun wx => FBox wx n1 y)) (i := 13) (oi := { dst := some 76, op := Go.Op.fieldAddr 51 (Go.Operand.tmp 7) 3, type := 0, pos := "ref.go:53", after := #[{ on := 6, ground := Go.Ground.guard }], guard := some (6, true) }) (v := undef) rfl (by kernel_rfl) (by kernel_rfl) (by kernel_rfl) (fun _ _ _ h => h) (Or.inr ⟨by rfl, rfl⟩) HS ?rb13
                  try simp only [Act.put, List.setIfInBounds_toArray, List.set_cons_zero, List.set_cons_succ]
                  refine wpAnyH_take (S := (fun wx => FBox wx n1 y)) (i := 14) (oi := { dst := some 77, op := Go.Op.load 9 (Go.Operand.tmp 76), type := 9, pos := "ref.go:53", after := #[{ on := 13, ground := Go.Ground.data }, { on := 6, ground := Go.Ground.guard }], guard := some (6, true) }) (v := undef) rfl (by kernel_rfl) (by kernel_rfl) (by kernel_rfl) (fun _ _ _ h => h) (Or.inr ⟨by rfl, rfl⟩) HS ?rb14
                  try simp only [Act.put, List.setIfInBounds_toArray, List.set_cons_zero, List.set_cons_succ]
                  refine wpAnyH_take (S := (fun wx => FBox wx n1 y)) (i := 15) (oi := { dst := some 78, op := Go.Op.binOp Go.BinOp.geq 9 (Go.Operand.tmp 75) (Go.Operand.tmp 77) 9, type := 4, pos := "ref.go:53", after := #[{ on := 12, ground := Go.Ground.data }, { on := 14, ground := Go.Ground.data }, { on := 6, ground := Go.Ground.guard }], guard := some (6, true) }) (v := undef) rfl (by kernel_rfl) (by kernel_rfl) (by kernel_rfl) (fun _ _ _ h => h) (Or.inr ⟨by rfl, rfl⟩) HS ?rb15
                  try simp only [Act.put, List.setIfInBounds_toArray, List.set_cons_zero, List.set_cons_succ]
                  refine wpAnyH_take (S := (fun wx => FBox wx n1 y)) (i := 16) (oi := { dst := some 79, op := Go.Op.pick (Go.Operand.tmp 69) (Go.Operand.tmp 78) (Go.Operand.const (Go.Value.bool false)), type := 4, pos := "ref.go:53", after := #[{ on := 6, ground := Go.Ground.data }, { on := 15, ground := Go.Ground.data }], guard := none }) (v := .bool false) rfl (by kernel_rfl) (by kernel_rfl) (by kernel_rfl) (fun _ _ _ h => h) (Or.inl ⟨by rfl, ?yb16⟩) HS ?rb16
                  case yb16 => (intro w hSw; obtain ⟨s0, s1, s2, s3, s4⟩ := hSw; go_simp; first | done | with_reducible rfl | exact hwj | (intro hh; omega) | omega | simp [hkz] | simp [hge, hm2] | simp [hm3] | skip)
                  try simp only [Act.put, List.setIfInBounds_toArray, List.set_cons_zero, List.set_cons_succ]
                  refine wpAnyH_done (by kernel_rfl) ?_ _
                  refine NoPanic.normal ?_
                  go_wp2
                  go_roundw
                  case rel => exact ⟨1, by omega, by go_num, by
                    have e := hpn.out
                    rw [hy] at e
                    rw [show part L k 1 = _ from e]
                    exact rs_on R8.out ⟨rfl, rfl, rfl, Nat.le_refl _, fun _ _ => rfl⟩, fun n hn => by
                    have : n = 0 := by omega
                    subst this; exact hok.out, hnx.out⟩
                  case measure => simp [intOf]; omega
                · have hP := (hca j (by omega)).on (by rw [block_add]; exact hab) R8.out.below
                  have hcp : chkA (atl k (L k)[j]) = 0 := (hnow.out j (by omega) (by omega)).1
                  have HSt := rahead_any k (L k)[j] y
                  unfold fval at HSt
                  have hst : ∀ b, standsB k (L k)[j] y = b → (b = true → okF k (L k) (j + 1)) ∧ (b = false → ¬ right L) := fun b hb =>
                    ⟨fun e => okF_of hlj (by rw [hy]; exact hcc.out) (fun _ => by rw [hy]; exact hb.trans e), fun e => right_not hlt fun h => by
                      have := (h hlj).2 (by omega)
                      rw [hy] at this
                      have h2 : standsB k (L k)[j] y = true := this
                      rw [h2] at hb
                      rw [e] at hb
                      cases hb⟩
                  rw [← stands_same hcp] at hst
                  clear hcp
                  generalize (L k)[j] = p at *
                  have hjn : j + 1 ≤ 100000 := by omega
                  have hwj : IntKind.i64.wrap (j : Int) = j := IntWalk.i64_in _ (by omega)
                  replace hP := Lib.hid hP
                  have hge := geq_str p.most y.least
                  cases hs : raheadB k p y
                  · rw [hs] at HSt hst
                    have hnr2 := Lib.hid ((hst false rfl).2 rfl)
                    replace HSt := Lib.hid HSt
                    clear hst hs
                    refine wp_region_noPanic ?_
                    refine wp_region_held_drew (S := (fun wx => FBox wx n1 y ∧ FCells wx (a.add (j * 5)) p)) (by kernel_rfl) (⟨X8.out, hP.out⟩) (fun HS => ?_)
                    refine wpAnyH_take (S := (fun wx => FBox wx n1 y ∧ FCells wx (a.add (j * 5)) p)) (i := 0) (oi := { dst := some 50, op := Go.Op.move (Go.Operand.tmp 6), type := 3, pos := "ref.go:50", after := #[], guard := none }) (v := ?vc0) rfl (by kernel_rfl) (by kernel_rfl) (by kernel_rfl) (fun _ _ _ h => h) (Or.inl ⟨by rfl, ?yc0⟩) HS ?rc0
                    case yc0 => (intro w hSw; obtain ⟨⟨s0, s1, s2, s3, s4⟩, q0, q1, q2, q3, q4⟩ := hSw; go_simp; first | done | with_reducible rfl | exact hwj | (intro hh; omega) | omega | simp [hkz] | simp [hge, hm2] | simp [hm3] | skip)
                    try simp only [Act.put, List.setIfInBounds_toArray, List.set_cons_zero, List.set_cons_succ]
                    refine wpAnyH_take (S := (fun wx => FBox wx n1 y ∧ FCells wx (a.add (j * 5)) p)) (i := 1) (oi := { dst := some 51, op := Go.Op.binOp Go.BinOp.gtr 3 (Go.Operand.tmp 50) (Go.Operand.const (Go.Value.int Go.IntKind.i64 0)) 3, type := 4, pos := "ref.go:50", after := #[{ on := 0, ground := Go.Ground.data }], guard := none }) (v := .bool true) rfl (by kernel_rfl) (by kernel_rfl) (by kernel_rfl) (fun _ _ _ h => h) (Or.inl ⟨by rfl, ?yc1⟩) HS ?rc1
                    case yc1 => (intro w hSw; obtain ⟨⟨s0, s1, s2, s3, s4⟩, q0, q1, q2, q3, q4⟩ := hSw; go_simp; first | done | with_reducible rfl | exact hwj | (intro hh; omega) | omega | simp [hkz] | simp [hge, hm2] | simp [hm3] | skip)
                    try simp only [Act.put, List.setIfInBounds_toArray, List.set_cons_zero, List.set_cons_succ]
                    refine wpAnyH_take (S := (fun wx => FBox wx n1 y ∧ FCells wx (a.add (j * 5)) p)) (i := 2) (oi := { dst := some 52, op := Go.Op.move (Go.Operand.tmp 51), type := 4, pos := "ref.go:50", after := #[{ on := 1, ground := Go.Ground.data }], guard := none }) (v := .bool true) rfl (by kernel_rfl) (by kernel_rfl) (by kernel_rfl) (fun _ _ _ h => h) (Or.inl ⟨by rfl, ?yc2⟩) HS ?rc2
                    case yc2 => (intro w hSw; obtain ⟨⟨s0, s1, s2, s3, s4⟩, q0, q1, q2, q3, q4⟩ := hSw; go_simp; first | done | with_reducible rfl | exact hwj | (intro hh; omega) | omega | simp [hkz] | simp [hge, hm2] | simp [hm3] | skip)
                    try simp only [Act.put, List.setIfInBounds_toArray, List.set_cons_zero, List.set_cons_succ]
                    refine wpAnyH_take (S := (fun wx => FBox wx n1 y ∧ FCells wx (a.add (j * 5)) p)) (i := 3) (oi := { dst := some 53, op := Go.Op.move (Go.Operand.tmp 4), type := 3, pos := "ref.go:50", after := #[{ on := 2, ground := Go.Ground.guard }], guard := some (2, true) }) (v := ?vc3) rfl (by kernel_rfl) (by kernel_rfl) (by kernel_rfl) (fun _ _ _ h => h) (Or.inl ⟨by rfl, ?yc3⟩) HS ?rc3
                    case yc3 => (intro w hSw; obtain ⟨⟨s0, s1, s2, s3, s4⟩, q0, q1, q2, q3, q4⟩ := hSw; go_simp; first | done | with_reducible rfl | exact hwj | (intro hh; omega) | omega | simp [hkz] | simp [hge, hm2] | simp [hm3] | skip)
                    try simp only [Act.put, List.setIfInBounds_toArray, List.set_cons_zero, List.set_cons_succ]
                    refine wpAnyH_take (S := (fun wx => FBox wx n1 y ∧ FCells wx (a.add (j * 5)) p)) (i := 4) (oi := { dst := some 54, op := Go.Op.move (Go.Operand.tmp 5), type := 27, pos := "ref.go:50", after := #[{ on := 2, ground := Go.Ground.guard }], guard := some (2, true) }) (v := ?vc4) rfl (by kernel_rfl) (by kernel_rfl) (by kernel_rfl) (fun _ _ _ h => h) (Or.inl ⟨by rfl, ?yc4⟩) HS ?rc4
                    case yc4 => (intro w hSw; obtain ⟨⟨s0, s1, s2, s3, s4⟩, q0, q1, q2, q3, q4⟩ := hSw; go_simp; first | done | with_reducible rfl | exact hwj | (intro hh; omega) | omega | simp [hkz] | simp [hge, hm2] | simp [hm3] | skip)
                    try simp only [Act.put, List.setIfInBounds_toArray, List.set_cons_zero, List.set_cons_succ]
                    refine wpAnyH_take (S := (fun wx => FBox wx n1 y ∧ FCells wx (a.add (j * 5)) p)) (i := 5) (oi := { dst := some 55, op := Go.Op.move (Go.Operand.tmp 6), type := 3, pos := "ref.go:50", after := #[{ on := 2, ground := Go.Ground.guard }], guard := some (2, true) }) (v := ?vc5) rfl (by kernel_rfl) (by kernel_rfl) (by kernel_rfl) (fun _ _ _ h => h) (Or.inl ⟨by rfl, ?yc5⟩) HS ?rc5
                    case yc5 => (intro w hSw; obtain ⟨⟨s0, s1, s2, s3, s4⟩, q0, q1, q2, q3, q4⟩ := hSw; go_simp; first | done | with_reducible rfl | exact hwj | (intro hh; omega) | omega | simp [hkz] | simp [hge, hm2] | simp [hm3] | skip)
                    try simp only [Act.put, List.setIfInBounds_toArray, List.set_cons_zero, List.set_cons_succ]
                    refine wpAnyH_take (S := (fun wx => FBox wx n1 y ∧ FCells wx (a.add (j * 5)) p)) (i := 6) (oi := { dst := some 56, op := Go.Op.binOp Go.BinOp.sub 3 (Go.Operand.tmp 55) (Go.Operand.const (Go.Value.int Go.IntKind.i64 1)) 3, type := 3, pos := "ref.go:50", after := #[{ on := 5, ground := Go.Ground.data }, { on := 2, ground := Go.Ground.guard }], guard := some (2, true) }) (v := .int .i64 (j : Int)) rfl (by kernel_rfl) (by kernel_rfl) (by kernel_rfl) (fun _ _ _ h => h) (Or.inl ⟨by rfl, ?yc6⟩) HS ?rc6
                    case yc6 => (intro w hSw; obtain ⟨⟨s0, s1, s2, s3, s4⟩, q0, q1, q2, q3, q4⟩ := hSw; go_simp; first | done | with_reducible rfl | exact hwj | (intro hh; omega) | omega | simp [hkz] | simp [hge, hm2] | simp [hm3] | skip)
                    try simp only [Act.put, List.setIfInBounds_toArray, List.set_cons_zero, List.set_cons_succ]
                    refine wpAnyH_take (S := (fun wx => FBox wx n1 y ∧ FCells wx (a.add (j * 5)) p)) (i := 7) (oi := { dst := some 57, op := Go.Op.indexAddr 27 (Go.Operand.tmp 54) (Go.Operand.tmp 56), type := 0, pos := "ref.go:50", after := #[{ on := 4, ground := Go.Ground.data }, { on := 6, ground := Go.Ground.data }, { on := 2, ground := Go.Ground.guard }], guard := some (2, true) }) (v := .pointer (some (a.add (j * 5)))) rfl (by kernel_rfl) (by kernel_rfl) (by kernel_rfl) (fun _ _ _ h => h) (Or.inl ⟨by rfl, ?yc7⟩) HS ?rc7
                    case yc7 => (intro w hSw; obtain ⟨⟨s0, s1, s2, s3, s4⟩, q0, q1, q2, q3, q4⟩ := hSw; go_simp; first | done | with_reducible rfl | exact hwj | (intro hh; omega) | omega | simp [hkz] | simp [hge, hm2] | simp [hm3] | skip)
                    try simp only [Act.put, List.setIfInBounds_toArray, List.set_cons_zero, List.set_cons_succ]
                    refine wpAnyH_take (S := (fun wx => FBox wx n1 y ∧ FCells wx (a.add (j * 5)) p)) (i := 8) (oi := { dst := some 58, op := Go.Op.load 51 (Go.Operand.tmp 57), type := 51, pos := "ref.go:50", after := #[{ on := 7, ground := Go.Ground.data }, { on := 2, ground := Go.Ground.guard }], guard := some (2, true) }) (v := ?vc8) rfl (by kernel_rfl) (by kernel_rfl) (by kernel_rfl) (fun _ _ _ h => h) (Or.inl ⟨by rfl, ?yc8⟩) HS ?rc8
                    case yc8 => (intro w hSw; obtain ⟨⟨s0, s1, s2, s3, s4⟩, q0, q1, q2, q3, q4⟩ := hSw; go_simp; first | done | with_reducible rfl | exact hwj | (intro hh; omega) | omega | simp [hkz] | simp [hge, hm2] | simp [hm3] | skip)
                    try simp only [Act.put, List.setIfInBounds_toArray, List.set_cons_zero, List.set_cons_succ]
                    refine wpAnyH_take (S := (fun wx => FBox wx n1 y ∧ FCells wx (a.add (j * 5)) p)) (i := 9) (oi := { dst := some 59, op := Go.Op.load 51 (Go.Operand.tmp 7), type := 51, pos := "ref.go:50", after := #[{ on := 2, ground := Go.Ground.guard }], guard := some (2, true) }) (v := ?vc9) rfl (by kernel_rfl) (by kernel_rfl) (by kernel_rfl) (fun _ _ _ h => h) (Or.inl ⟨by rfl, ?yc9⟩) HS ?rc9
                    case yc9 => (intro w hSw; obtain ⟨⟨s0, s1, s2, s3, s4⟩, q0, q1, q2, q3, q4⟩ := hSw; go_simp; first | done | with_reducible rfl | exact hwj | (intro hh; omega) | omega | simp [hkz] | simp [hge, hm2] | simp [hm3] | skip)
                    try simp only [Act.put, List.setIfInBounds_toArray, List.set_cons_zero, List.set_cons_succ]
                    refine wpAnyH_ready (rs := [10]) (by kernel_rfl) (by simp) ?_
                    refine AllReadyH.cons (o := { dst := some 60, op := Go.Op.call { callee := Go.Callee.value (Go.Operand.func 15), args := #[Go.Operand.tmp 53, Go.Operand.tmp 58, Go.Operand.tmp 59], argTypes := #[3, 51, 51] }, type := 4, pos := "ref.go:50", after := #[{ on := 3, ground := Go.Ground.data }, { on := 8, ground := Go.Ground.data }, { on := 9, ground := Go.Ground.data }, { on := 2, ground := Go.Ground.chain }, { on := 2, ground := Go.Ground.guard }], guard := some (2, true) }) rfl (fun K hK => ?_) AllReadyH.nil
                    go_simp
                    refine (HSt.out _).mono ?_; rintro e w3 ⟨rfl, hb3⟩
                    refine hK.out _ _ (⟨fbox_on X8 hb3, hP.out.on (fcells_lt hP.out) (undrew hb3)⟩) (fun HS => ?_)
                    try simp only [Act.put, List.setIfInBounds_toArray, List.set_cons_zero, List.set_cons_succ]
                    refine wpAnyH_take (S := (fun wx => FBox wx n1 y ∧ FCells wx (a.add (j * 5)) p)) (i := 11) (oi := { dst := some 61, op := Go.Op.unOp Go.UnOp.not 4 (Go.Operand.tmp 60), type := 4, pos := "ref.go:50", after := #[{ on := 10, ground := Go.Ground.data }, { on := 2, ground := Go.Ground.guard }], guard := some (2, true) }) (v := .bool true) rfl (by kernel_rfl) (by kernel_rfl) (by kernel_rfl) (fun _ _ _ h => h) (Or.inl ⟨by rfl, ?yc11⟩) HS ?rc11
                    case yc11 => (intro w hSw; obtain ⟨⟨s0, s1, s2, s3, s4⟩, q0, q1, q2, q3, q4⟩ := hSw; go_simp; first | done | with_reducible rfl | exact hwj | (intro hh; omega) | omega | simp [hkz] | simp [hge, hm2] | simp [hm3] | skip)
                    try simp only [Act.put, List.setIfInBounds_toArray, List.set_cons_zero, List.set_cons_succ]
                    refine wpAnyH_take (S := (fun wx => FBox wx n1 y ∧ FCells wx (a.add (j * 5)) p)) (i := 12) (oi := { dst := some 62, op := Go.Op.pick (Go.Operand.tmp 52) (Go.Operand.tmp 61) (Go.Operand.const (Go.Value.bool false)), type := 4, pos := "ref.go:50", after := #[{ on := 2, ground := Go.Ground.data }, { on := 11, ground := Go.Ground.data }], guard := none }) (v := .bool true) rfl (by kernel_rfl) (by kernel_rfl) (by kernel_rfl) (fun _ _ _ h => h) (Or.inl ⟨by rfl, ?yc12⟩) HS ?rc12
                    case yc12 => (intro w hSw; obtain ⟨⟨s0, s1, s2, s3, s4⟩, q0, q1, q2, q3, q4⟩ := hSw; go_simp; first | done | with_reducible rfl | exact hwj | (intro hh; omega) | omega | simp [hkz] | simp [hge, hm2] | simp [hm3] | skip)
                    try simp only [Act.put, List.setIfInBounds_toArray, List.set_cons_zero, List.set_cons_succ]
                    refine wpAnyH_done (by kernel_rfl) ?_ _
                    refine NoPanic.normal ?_
                    go_wp2
                    go_ret
                    exact ⟨⟨false, rfl, by simp [hnr2.out]⟩, (rs_on R8.out (undrew hb3)).below⟩
                  · rw [hs] at HSt hst
                    replace HSt := Lib.hid HSt
                    clear hs
                    replace hst := Lib.hid hst
                    refine wp_region_noPanic ?_
                    refine wp_region_held_drew (S := (fun wx => FBox wx n1 y ∧ FCells wx (a.add (j * 5)) p)) (by kernel_rfl) (⟨X8.out, hP.out⟩) (fun HS => ?_)
                    refine wpAnyH_take (S := (fun wx => FBox wx n1 y ∧ FCells wx (a.add (j * 5)) p)) (i := 0) (oi := { dst := some 50, op := Go.Op.move (Go.Operand.tmp 6), type := 3, pos := "ref.go:50", after := #[], guard := none }) (v := ?vd0) rfl (by kernel_rfl) (by kernel_rfl) (by kernel_rfl) (fun _ _ _ h => h) (Or.inl ⟨by rfl, ?yd0⟩) HS ?rd0
                    case yd0 => (intro w hSw; obtain ⟨⟨s0, s1, s2, s3, s4⟩, q0, q1, q2, q3, q4⟩ := hSw; go_simp; first | done | with_reducible rfl | exact hwj | (intro hh; omega) | omega | simp [hkz] | simp [hge, hm2] | simp [hm3] | skip)
                    try simp only [Act.put, List.setIfInBounds_toArray, List.set_cons_zero, List.set_cons_succ]
                    refine wpAnyH_take (S := (fun wx => FBox wx n1 y ∧ FCells wx (a.add (j * 5)) p)) (i := 1) (oi := { dst := some 51, op := Go.Op.binOp Go.BinOp.gtr 3 (Go.Operand.tmp 50) (Go.Operand.const (Go.Value.int Go.IntKind.i64 0)) 3, type := 4, pos := "ref.go:50", after := #[{ on := 0, ground := Go.Ground.data }], guard := none }) (v := .bool true) rfl (by kernel_rfl) (by kernel_rfl) (by kernel_rfl) (fun _ _ _ h => h) (Or.inl ⟨by rfl, ?yd1⟩) HS ?rd1
                    case yd1 => (intro w hSw; obtain ⟨⟨s0, s1, s2, s3, s4⟩, q0, q1, q2, q3, q4⟩ := hSw; go_simp; first | done | with_reducible rfl | exact hwj | (intro hh; omega) | omega | simp [hkz] | simp [hge, hm2] | simp [hm3] | skip)
                    try simp only [Act.put, List.setIfInBounds_toArray, List.set_cons_zero, List.set_cons_succ]
                    refine wpAnyH_take (S := (fun wx => FBox wx n1 y ∧ FCells wx (a.add (j * 5)) p)) (i := 2) (oi := { dst := some 52, op := Go.Op.move (Go.Operand.tmp 51), type := 4, pos := "ref.go:50", after := #[{ on := 1, ground := Go.Ground.data }], guard := none }) (v := .bool true) rfl (by kernel_rfl) (by kernel_rfl) (by kernel_rfl) (fun _ _ _ h => h) (Or.inl ⟨by rfl, ?yd2⟩) HS ?rd2
                    case yd2 => (intro w hSw; obtain ⟨⟨s0, s1, s2, s3, s4⟩, q0, q1, q2, q3, q4⟩ := hSw; go_simp; first | done | with_reducible rfl | exact hwj | (intro hh; omega) | omega | simp [hkz] | simp [hge, hm2] | simp [hm3] | skip)
                    try simp only [Act.put, List.setIfInBounds_toArray, List.set_cons_zero, List.set_cons_succ]
                    refine wpAnyH_take (S := (fun wx => FBox wx n1 y ∧ FCells wx (a.add (j * 5)) p)) (i := 3) (oi := { dst := some 53, op := Go.Op.move (Go.Operand.tmp 4), type := 3, pos := "ref.go:50", after := #[{ on := 2, ground := Go.Ground.guard }], guard := some (2, true) }) (v := ?vd3) rfl (by kernel_rfl) (by kernel_rfl) (by kernel_rfl) (fun _ _ _ h => h) (Or.inl ⟨by rfl, ?yd3⟩) HS ?rd3
                    case yd3 => (intro w hSw; obtain ⟨⟨s0, s1, s2, s3, s4⟩, q0, q1, q2, q3, q4⟩ := hSw; go_simp; first | done | with_reducible rfl | exact hwj | (intro hh; omega) | omega | simp [hkz] | simp [hge, hm2] | simp [hm3] | skip)
                    try simp only [Act.put, List.setIfInBounds_toArray, List.set_cons_zero, List.set_cons_succ]
                    refine wpAnyH_take (S := (fun wx => FBox wx n1 y ∧ FCells wx (a.add (j * 5)) p)) (i := 4) (oi := { dst := some 54, op := Go.Op.move (Go.Operand.tmp 5), type := 27, pos := "ref.go:50", after := #[{ on := 2, ground := Go.Ground.guard }], guard := some (2, true) }) (v := ?vd4) rfl (by kernel_rfl) (by kernel_rfl) (by kernel_rfl) (fun _ _ _ h => h) (Or.inl ⟨by rfl, ?yd4⟩) HS ?rd4
                    case yd4 => (intro w hSw; obtain ⟨⟨s0, s1, s2, s3, s4⟩, q0, q1, q2, q3, q4⟩ := hSw; go_simp; first | done | with_reducible rfl | exact hwj | (intro hh; omega) | omega | simp [hkz] | simp [hge, hm2] | simp [hm3] | skip)
                    try simp only [Act.put, List.setIfInBounds_toArray, List.set_cons_zero, List.set_cons_succ]
                    refine wpAnyH_take (S := (fun wx => FBox wx n1 y ∧ FCells wx (a.add (j * 5)) p)) (i := 5) (oi := { dst := some 55, op := Go.Op.move (Go.Operand.tmp 6), type := 3, pos := "ref.go:50", after := #[{ on := 2, ground := Go.Ground.guard }], guard := some (2, true) }) (v := ?vd5) rfl (by kernel_rfl) (by kernel_rfl) (by kernel_rfl) (fun _ _ _ h => h) (Or.inl ⟨by rfl, ?yd5⟩) HS ?rd5
                    case yd5 => (intro w hSw; obtain ⟨⟨s0, s1, s2, s3, s4⟩, q0, q1, q2, q3, q4⟩ := hSw; go_simp; first | done | with_reducible rfl | exact hwj | (intro hh; omega) | omega | simp [hkz] | simp [hge, hm2] | simp [hm3] | skip)
                    try simp only [Act.put, List.setIfInBounds_toArray, List.set_cons_zero, List.set_cons_succ]
                    refine wpAnyH_take (S := (fun wx => FBox wx n1 y ∧ FCells wx (a.add (j * 5)) p)) (i := 6) (oi := { dst := some 56, op := Go.Op.binOp Go.BinOp.sub 3 (Go.Operand.tmp 55) (Go.Operand.const (Go.Value.int Go.IntKind.i64 1)) 3, type := 3, pos := "ref.go:50", after := #[{ on := 5, ground := Go.Ground.data }, { on := 2, ground := Go.Ground.guard }], guard := some (2, true) }) (v := .int .i64 (j : Int)) rfl (by kernel_rfl) (by kernel_rfl) (by kernel_rfl) (fun _ _ _ h => h) (Or.inl ⟨by rfl, ?yd6⟩) HS ?rd6
                    case yd6 => (intro w hSw; obtain ⟨⟨s0, s1, s2, s3, s4⟩, q0, q1, q2, q3, q4⟩ := hSw; go_simp; first | done | with_reducible rfl | exact hwj | (intro hh; omega) | omega | simp [hkz] | simp [hge, hm2] | simp [hm3] | skip)
                    try simp only [Act.put, List.setIfInBounds_toArray, List.set_cons_zero, List.set_cons_succ]
                    refine wpAnyH_take (S := (fun wx => FBox wx n1 y ∧ FCells wx (a.add (j * 5)) p)) (i := 7) (oi := { dst := some 57, op := Go.Op.indexAddr 27 (Go.Operand.tmp 54) (Go.Operand.tmp 56), type := 0, pos := "ref.go:50", after := #[{ on := 4, ground := Go.Ground.data }, { on := 6, ground := Go.Ground.data }, { on := 2, ground := Go.Ground.guard }], guard := some (2, true) }) (v := .pointer (some (a.add (j * 5)))) rfl (by kernel_rfl) (by kernel_rfl) (by kernel_rfl) (fun _ _ _ h => h) (Or.inl ⟨by rfl, ?yd7⟩) HS ?rd7
                    case yd7 => (intro w hSw; obtain ⟨⟨s0, s1, s2, s3, s4⟩, q0, q1, q2, q3, q4⟩ := hSw; go_simp; first | done | with_reducible rfl | exact hwj | (intro hh; omega) | omega | simp [hkz] | simp [hge, hm2] | simp [hm3] | skip)
                    try simp only [Act.put, List.setIfInBounds_toArray, List.set_cons_zero, List.set_cons_succ]
                    refine wpAnyH_take (S := (fun wx => FBox wx n1 y ∧ FCells wx (a.add (j * 5)) p)) (i := 8) (oi := { dst := some 58, op := Go.Op.load 51 (Go.Operand.tmp 57), type := 51, pos := "ref.go:50", after := #[{ on := 7, ground := Go.Ground.data }, { on := 2, ground := Go.Ground.guard }], guard := some (2, true) }) (v := ?vd8) rfl (by kernel_rfl) (by kernel_rfl) (by kernel_rfl) (fun _ _ _ h => h) (Or.inl ⟨by rfl, ?yd8⟩) HS ?rd8
                    case yd8 => (intro w hSw; obtain ⟨⟨s0, s1, s2, s3, s4⟩, q0, q1, q2, q3, q4⟩ := hSw; go_simp; first | done | with_reducible rfl | exact hwj | (intro hh; omega) | omega | simp [hkz] | simp [hge, hm2] | simp [hm3] | skip)
                    try simp only [Act.put, List.setIfInBounds_toArray, List.set_cons_zero, List.set_cons_succ]
                    refine wpAnyH_take (S := (fun wx => FBox wx n1 y ∧ FCells wx (a.add (j * 5)) p)) (i := 9) (oi := { dst := some 59, op := Go.Op.load 51 (Go.Operand.tmp 7), type := 51, pos := "ref.go:50", after := #[{ on := 2, ground := Go.Ground.guard }], guard := some (2, true) }) (v := ?vd9) rfl (by kernel_rfl) (by kernel_rfl) (by kernel_rfl) (fun _ _ _ h => h) (Or.inl ⟨by rfl, ?yd9⟩) HS ?rd9
                    case yd9 => (intro w hSw; obtain ⟨⟨s0, s1, s2, s3, s4⟩, q0, q1, q2, q3, q4⟩ := hSw; go_simp; first | done | with_reducible rfl | exact hwj | (intro hh; omega) | omega | simp [hkz] | simp [hge, hm2] | simp [hm3] | skip)
                    try simp only [Act.put, List.setIfInBounds_toArray, List.set_cons_zero, List.set_cons_succ]
                    refine wpAnyH_ready (rs := [10]) (by kernel_rfl) (by simp) ?_
                    refine AllReadyH.cons (o := { dst := some 60, op := Go.Op.call { callee := Go.Callee.value (Go.Operand.func 15), args := #[Go.Operand.tmp 53, Go.Operand.tmp 58, Go.Operand.tmp 59], argTypes := #[3, 51, 51] }, type := 4, pos := "ref.go:50", after := #[{ on := 3, ground := Go.Ground.data }, { on := 8, ground := Go.Ground.data }, { on := 9, ground := Go.Ground.data }, { on := 2, ground := Go.Ground.chain }, { on := 2, ground := Go.Ground.guard }], guard := some (2, true) }) rfl (fun K hK => ?_) AllReadyH.nil
                    go_simp
                    refine (HSt.out _).mono ?_; rintro e w3 ⟨rfl, hb3⟩
                    refine hK.out _ _ (⟨fbox_on X8 hb3, hP.out.on (fcells_lt hP.out) (undrew hb3)⟩) (fun HS => ?_)
                    try simp only [Act.put, List.setIfInBounds_toArray, List.set_cons_zero, List.set_cons_succ]
                    refine wpAnyH_take (S := (fun wx => FBox wx n1 y ∧ FCells wx (a.add (j * 5)) p)) (i := 11) (oi := { dst := some 61, op := Go.Op.unOp Go.UnOp.not 4 (Go.Operand.tmp 60), type := 4, pos := "ref.go:50", after := #[{ on := 10, ground := Go.Ground.data }, { on := 2, ground := Go.Ground.guard }], guard := some (2, true) }) (v := .bool false) rfl (by kernel_rfl) (by kernel_rfl) (by kernel_rfl) (fun _ _ _ h => h) (Or.inl ⟨by rfl, ?yd11⟩) HS ?rd11
                    case yd11 => (intro w hSw; obtain ⟨⟨s0, s1, s2, s3, s4⟩, q0, q1, q2, q3, q4⟩ := hSw; go_simp; first | done | with_reducible rfl | exact hwj | (intro hh; omega) | omega | simp [hkz] | simp [hge, hm2] | simp [hm3] | skip)
                    try simp only [Act.put, List.setIfInBounds_toArray, List.set_cons_zero, List.set_cons_succ]
                    refine wpAnyH_take (S := (fun wx => FBox wx n1 y ∧ FCells wx (a.add (j * 5)) p)) (i := 12) (oi := { dst := some 62, op := Go.Op.pick (Go.Operand.tmp 52) (Go.Operand.tmp 61) (Go.Operand.const (Go.Value.bool false)), type := 4, pos := "ref.go:50", after := #[{ on := 2, ground := Go.Ground.data }, { on := 11, ground := Go.Ground.data }], guard := none }) (v := .bool false) rfl (by kernel_rfl) (by kernel_rfl) (by kernel_rfl) (fun _ _ _ h => h) (Or.inl ⟨by rfl, ?yd12⟩) HS ?rd12
                    case yd12 => (intro w hSw; obtain ⟨⟨s0, s1, s2, s3, s4⟩, q0, q1, q2, q3, q4⟩ := hSw; go_simp; first | done | with_reducible rfl | exact hwj | (intro hh; omega) | omega | simp [hkz] | simp [hge, hm2] | simp [hm3] | skip)
                    try simp only [Act.put, List.setIfInBounds_toArray, List.set_cons_zero, List.set_cons_succ]
                    refine wpAnyH_done (by kernel_rfl) ?_ _
                    refine NoPanic.normal ?_
                    go_wp2
                    have R9 := Lib.hid (rs_on R8.out (undrew hb3))
                    have X9 := Lib.hid (fbox_on X8 hb3)
                    have P9 := Lib.hid (hP.out.on (fcells_lt hP.out) (undrew hb3))
                    by_cases hk0 : k = 0
                    · have hok := Lib.hid ((hst.out true (by simp [hk0])).1 rfl)
                      have hkz : ¬ (0 : Int) < (k : Int) := by omega
                      have hkd : decide ((0 : Int) < (k : Int)) = false := decide_eq_false hkz
                      refine wp_region_noPanic ?_
                      refine wp_region_held_drew (S := (fun wx => FBox wx n1 y ∧ FCells wx (a.add (j * 5)) p)) (by kernel_rfl) (⟨X9.out, P9.out⟩) (fun HS => ?_)
                      refine wpAnyH_take (S := (fun wx => FBox wx n1 y ∧ FCells wx (a.add (j * 5)) p)) (i := 0) (oi := { dst := some 63, op := Go.Op.move (Go.Operand.tmp 6), type := 3, pos := "ref.go:53", after := #[], guard := none }) (v := ?ve0) rfl (by kernel_rfl) (by kernel_rfl) (by kernel_rfl) (fun _ _ _ h => h) (Or.inl ⟨by rfl, ?ye0⟩) HS ?re0
                      case ye0 => (intro w hSw; obtain ⟨⟨s0, s1, s2, s3, s4⟩, q0, q1, q2, q3, q4⟩ := hSw; go_simp; first | done | with_reducible rfl | exact hwj | (intro hh; omega) | omega | simp [hkz] | simp [hge, hm2] | simp [hm3] | skip)
                      try simp only [Act.put, List.setIfInBounds_toArray, List.set_cons_zero, List.set_cons_succ]
                      refine wpAnyH_take (S := (fun wx => FBox wx n1 y ∧ FCells wx (a.add (j * 5)) p)) (i := 1) (oi := { dst := some 64, op := Go.Op.binOp Go.BinOp.gtr 3 (Go.Operand.tmp 63) (Go.Operand.const (Go.Value.int Go.IntKind.i64 0)) 3, type := 4, pos := "ref.go:53", after := #[{ on := 0, ground := Go.Ground.data }], guard := none }) (v := .bool true) rfl (by kernel_rfl) (by kernel_rfl) (by kernel_rfl) (fun _ _ _ h => h) (Or.inl ⟨by rfl, ?ye1⟩) HS ?re1
                      case ye1 => (intro w hSw; obtain ⟨⟨s0, s1, s2, s3, s4⟩, q0, q1, q2, q3, q4⟩ := hSw; go_simp; first | done | with_reducible rfl | exact hwj | (intro hh; omega) | omega | simp [hkz] | simp [hge, hm2] | simp [hm3] | skip)
                      try simp only [Act.put, List.setIfInBounds_toArray, List.set_cons_zero, List.set_cons_succ]
                      refine wpAnyH_take (S := (fun wx => FBox wx n1 y ∧ FCells wx (a.add (j * 5)) p)) (i := 2) (oi := { dst := some 65, op := Go.Op.move (Go.Operand.tmp 64), type := 4, pos := "ref.go:53", after := #[{ on := 1, ground := Go.Ground.data }], guard := none }) (v := .bool true) rfl (by kernel_rfl) (by kernel_rfl) (by kernel_rfl) (fun _ _ _ h => h) (Or.inl ⟨by rfl, ?ye2⟩) HS ?re2
                      case ye2 => (intro w hSw; obtain ⟨⟨s0, s1, s2, s3, s4⟩, q0, q1, q2, q3, q4⟩ := hSw; go_simp; first | done | with_reducible rfl | exact hwj | (intro hh; omega) | omega | simp [hkz] | simp [hge, hm2] | simp [hm3] | skip)
                      try simp only [Act.put, List.setIfInBounds_toArray, List.set_cons_zero, List.set_cons_succ]
                      refine wpAnyH_take (S := (fun wx => FBox wx n1 y ∧ FCells wx (a.add (j * 5)) p)) (i := 3) (oi := { dst := some 66, op := Go.Op.move (Go.Operand.tmp 4), type := 3, pos := "ref.go:53", after := #[{ on := 2, ground := Go.Ground.guard }], guard := some (2, true) }) (v := ?ve3) rfl (by kernel_rfl) (by kernel_rfl) (by kernel_rfl) (fun _ _ _ h => h) (Or.inl ⟨by rfl, ?ye3⟩) HS ?re3
                      case ye3 => (intro w hSw; obtain ⟨⟨s0, s1, s2, s3, s4⟩, q0, q1, q2, q3, q4⟩ := hSw; go_simp; first | done | with_reducible rfl | exact hwj | (intro hh; omega) | omega | simp [hkz] | simp [hge, hm2] | simp [hm3] | skip)
                      try simp only [Act.put, List.setIfInBounds_toArray, List.set_cons_zero, List.set_cons_succ]
                      refine wpAnyH_take (S := (fun wx => FBox wx n1 y ∧ FCells wx (a.add (j * 5)) p)) (i := 4) (oi := { dst := some 67, op := Go.Op.binOp Go.BinOp.gtr 3 (Go.Operand.tmp 66) (Go.Operand.const (Go.Value.int Go.IntKind.i64 0)) 3, type := 4, pos := "ref.go:53", after := #[{ on := 3, ground := Go.Ground.data }, { on := 2, ground := Go.Ground.guard }], guard := some (2, true) }) (v := .bool false) rfl (by kernel_rfl) (by kernel_rfl) (by kernel_rfl) (fun _ _ _ h => h) (Or.inl ⟨by rfl, ?ye4⟩) HS ?re4
                      case ye4 => (intro w hSw; obtain ⟨⟨s0, s1, s2, s3, s4⟩, q0, q1, q2, q3, q4⟩ := hSw; go_simp; first | done | with_reducible rfl | exact hwj | (intro hh; omega) | omega | simp [hkz] | simp [hge, hm2] | simp [hm3] | skip)
                      try simp only [Act.put, List.setIfInBounds_toArray, List.set_cons_zero, List.set_cons_succ]
                      refine wpAnyH_take (S := (fun wx => FBox wx n1 y ∧ FCells wx (a.add (j * 5)) p)) (i := 5) (oi := { dst := some 68, op := Go.Op.pick (Go.Operand.tmp 65) (Go.Operand.tmp 67) (Go.Operand.const (Go.Value.bool false)), type := 4, pos := "ref.go:53", after := #[{ on := 2, ground := Go.Ground.data }, { on := 4, ground := Go.Ground.data }], guard := none }) (v := .bool false) rfl (by kernel_rfl) (by kernel_rfl) (by kernel_rfl) (fun _ _ _ h => h) (Or.inl ⟨by rfl, ?ye5⟩) HS ?re5
                      case ye5 => (intro w hSw; obtain ⟨⟨s0, s1, s2, s3, s4⟩, q0, q1, q2, q3, q4⟩ := hSw; go_simp; first | done | with_reducible rfl | exact hwj | (intro hh; omega) | omega | simp [hkz] | simp [hge, hm2] | simp [hm3] | skip)
                      try simp only [Act.put, List.setIfInBounds_toArray, List.set_cons_zero, List.set_cons_succ]
                      refine wpAnyH_take (S := (fun wx => FBox wx n1 y ∧ FCells wx (a.add (j * 5)) p)) (i := 6) (oi := { dst := some 69, op := Go.Op.move (Go.Operand.tmp 68), type := 4, pos := "ref.go:53", after := #[{ on := 5, ground := Go.Ground.data }, { on := 2, ground := Go.Ground.chain }], guard := none }) (v := .bool false) rfl (by kernel_rfl) (by kernel_rfl) (by kernel_rfl) (fun _ _ _ h => h) (Or.inl ⟨by rfl, ?ye6⟩) HS ?re6
                      case ye6 => (intro w hSw; obtain ⟨⟨s0, s1, s2, s3, s4⟩, q0, q1, q2, q3, q4⟩ := hSw; go_simp; first | done | with_reducible rfl | exact hwj | (intro hh; omega) | omega | simp [hkz] | simp [hge, hm2] | simp [hm3] | skip)
                      try simp only [Act.put, List.setIfInBounds_toArray, List.set_cons_zero, List.set_cons_succ]
                      refine wpAnyH_take (S := (fun wx => FBox wx n1 y ∧ FCells wx (a.add (j * 5)) p)) (i := 7) (oi := { dst := some 70, op := Go.Op.move (Go.Operand.tmp 5), type := 27, pos := "ref.go:53", after := #[{ on := 6, ground := Go.Ground.guard }], guard := some (6, true) }) (v := undef) rfl (by kernel_rfl) (by kernel_rfl) (by kernel_rfl) (fun _ _ _ h => h) (Or.inr ⟨by rfl, rfl⟩) HS ?re7
                      try simp only [Act.put, List.setIfInBounds_toArray, List.set_cons_zero, List.set_cons_succ]
                      refine wpAnyH_take (S := (fun wx => FBox wx n1 y ∧ FCells wx (a.add (j * 5)) p)) (i := 8) (oi := { dst := some 71, op := Go.Op.move (Go.Operand.tmp 6), type := 3, pos := "ref.go:53", after := #[{ on := 6, ground := Go.Ground.guard }], guard := some (6, true) }) (v := undef) rfl (by kernel_rfl) (by kernel_rfl) (by kernel_rfl) (fun _ _ _ h => h) (Or.inr ⟨by rfl, rfl⟩) HS ?re8
                      try simp only [Act.put, List.setIfInBounds_toArray, List.set_cons_zero, List.set_cons_succ]
                      refine wpAnyH_take (S := (fun wx => FBox wx n1 y ∧ FCells wx (a.add (j * 5)) p)) (i := 9) (oi := { dst := some 72, op := Go.Op.binOp Go.BinOp.sub 3 (Go.Operand.tmp 71) (Go.Operand.const (Go.Value.int Go.IntKind.i64 1)) 3, type := 3, pos := "ref.go:53", after := #[{ on := 8, ground := Go.Ground.data }, { on := 6, ground := Go.Ground.guard }], guard := some (6, true) }) (v := undef) rfl (by kernel_rfl) (by kernel_rfl) (by kernel_rfl) (fun _ _ _ h => h) (Or.inr ⟨by rfl, rfl⟩) HS ?re9
                      try simp only [Act.put, List.setIfInBounds_toArray, List.set_cons_zero, List.set_cons_succ]
                      refine wpAnyH_take (S := (fun wx => FBox wx n1 y ∧ FCells wx (a.add (j * 5)) p)) (i := 10) (oi := { dst := some 73, op := Go.Op.indexAddr 27 (Go.Operand.tmp 70) (Go.Operand.tmp 72), type := 0, pos := "ref.go:53", after := #[{ on := 7, ground := Go.Ground.data }, { on := 9, ground := Go.Ground.data }, { on := 6, ground := Go.Ground.guard }], guard := some (6, true) }) (v := undef) rfl (by kernel_rfl) (by kernel_rfl) (by kernel_rfl) (fun _ _ _ h => h) (Or.inr ⟨by rfl, rfl⟩) HS ?re10
                      try simp only [Act.put, List.setIfInBounds_toArray, List.set_cons_zero, List.set_cons_succ]
                      refine wpAnyH_take (S := (fun wx => FBox wx n1 y ∧ FCells wx (a.add (j * 5)) p)) (i := 11) (oi := { dst := some 74, op := Go.Op.fieldAddr 51 (Go.Operand.tmp 73) 4, type := 0, pos := "ref.go:53", after := #[{ on := 10, ground := Go.Ground.data }, { on := 6, ground := Go.Ground.guard }], guard := some (6, true) }) (v := undef) rfl (by kernel_rfl) (by kernel_rfl) (by kernel_rfl) (fun _ _ _ h => h) (Or.inr ⟨by rfl, rfl⟩) HS ?re11
                      try simp only [Act.put, List.setIfInBounds_toArray, List.set_cons_zero, List.set_cons_succ]
                      refine wpAnyH_take (S := (fun wx => FBox wx n1 y ∧ FCells wx (a.add (j * 5)) p)) (i := 12) (oi := { dst := some 75, op := Go.Op.load 9 (Go.Operand.tmp 74), type := 9, pos := "ref.go:53", after := #[{ on := 11, ground := Go.Ground.data }, { on := 6, ground := Go.Ground.guard }], guard := some (6, true) }) (v := undef) rfl (by kernel_rfl) (by kernel_rfl) (by kernel_rfl) (fun _ _ _ h => h) (Or.inr ⟨by rfl, rfl⟩) HS ?re12
                      try simp only [Act.put, List.setIfInBounds_toArray, List.set_cons_zero, List.set_cons_succ]
                      refine wpAnyH_take (S := (fun wx => FBox wx n1 y ∧ FCells wx (a.add (j * 5)) p)) (i := 13) (oi := { dst := some 76, op := Go.Op.fieldAddr 51 (Go.Operand.tmp 7) 3, type := 0, pos := "ref.go:53", after := #[{ on := 6, ground := Go.Ground.guard }], guard := some (6, true) }) (v := undef) rfl (by kernel_rfl) (by kernel_rfl) (by kernel_rfl) (fun _ _ _ h => h) (Or.inr ⟨by rfl, rfl⟩) HS ?re13
                      try simp only [Act.put, List.setIfInBounds_toArray, List.set_cons_zero, List.set_cons_succ]
                      refine wpAnyH_take (S := (fun wx => FBox wx n1 y ∧ FCells wx (a.add (j * 5)) p)) (i := 14) (oi := { dst := some 77, op := Go.Op.load 9 (Go.Operand.tmp 76), type := 9, pos := "ref.go:53", after := #[{ on := 13, ground := Go.Ground.data }, { on := 6, ground := Go.Ground.guard }], guard := some (6, true) }) (v := undef) rfl (by kernel_rfl) (by kernel_rfl) (by kernel_rfl) (fun _ _ _ h => h) (Or.inr ⟨by rfl, rfl⟩) HS ?re14
                      try simp only [Act.put, List.setIfInBounds_toArray, List.set_cons_zero, List.set_cons_succ]
                      refine wpAnyH_take (S := (fun wx => FBox wx n1 y ∧ FCells wx (a.add (j * 5)) p)) (i := 15) (oi := { dst := some 78, op := Go.Op.binOp Go.BinOp.geq 9 (Go.Operand.tmp 75) (Go.Operand.tmp 77) 9, type := 4, pos := "ref.go:53", after := #[{ on := 12, ground := Go.Ground.data }, { on := 14, ground := Go.Ground.data }, { on := 6, ground := Go.Ground.guard }], guard := some (6, true) }) (v := undef) rfl (by kernel_rfl) (by kernel_rfl) (by kernel_rfl) (fun _ _ _ h => h) (Or.inr ⟨by rfl, rfl⟩) HS ?re15
                      try simp only [Act.put, List.setIfInBounds_toArray, List.set_cons_zero, List.set_cons_succ]
                      refine wpAnyH_take (S := (fun wx => FBox wx n1 y ∧ FCells wx (a.add (j * 5)) p)) (i := 16) (oi := { dst := some 79, op := Go.Op.pick (Go.Operand.tmp 69) (Go.Operand.tmp 78) (Go.Operand.const (Go.Value.bool false)), type := 4, pos := "ref.go:53", after := #[{ on := 6, ground := Go.Ground.data }, { on := 15, ground := Go.Ground.data }], guard := none }) (v := .bool false) rfl (by kernel_rfl) (by kernel_rfl) (by kernel_rfl) (fun _ _ _ h => h) (Or.inl ⟨by rfl, ?ye16⟩) HS ?re16
                      case ye16 => (intro w hSw; obtain ⟨⟨s0, s1, s2, s3, s4⟩, q0, q1, q2, q3, q4⟩ := hSw; go_simp; first | done | with_reducible rfl | exact hwj | (intro hh; omega) | omega | simp [hkz] | simp [hge, hm2] | simp [hm3] | skip)
                      try simp only [Act.put, List.setIfInBounds_toArray, List.set_cons_zero, List.set_cons_succ]
                      refine wpAnyH_done (by kernel_rfl) ?_ _
                      refine NoPanic.normal ?_
                      go_wp2
                      go_roundw
                      case rel => exact ⟨j + 1 + 1, by omega, by go_num, by
                        have e := hpn.out
                        rw [hy] at e
                        rw [e]
                        exact rs_on R9.out ⟨rfl, rfl, rfl, Nat.le_refl _, fun _ _ => rfl⟩, fun n hn => by
                        by_cases e : n = j + 1
                        · subst e; exact hok.out
                        · exact hnow.out n (by omega), hnx.out⟩
                      case measure => simp [intOf]; omega
                    · have hkz : (0 : Int) < (k : Int) := by omega
                      have hkd : decide ((0 : Int) < (k : Int)) = true := decide_eq_true hkz
                      cases hm : lt p.most y.least
                      · have hnr2 := Lib.hid ((hst.out false (by simp [hk0, hm])).2 rfl)
                        have hm2 : Op.bytesLess p.most.toList y.least.toList = false := by rw [htl, htl]; exact hm
                        have hm3 : Op.bytesLess p.most.data.toList y.least.data.toList = false := hm
                        refine wp_region_noPanic ?_
                        refine wp_region_held_drew (S := (fun wx => FBox wx n1 y ∧ FCells wx (a.add (j * 5)) p)) (by kernel_rfl) (⟨X9.out, P9.out⟩) (fun HS => ?_)
                        refine wpAnyH_take (S := (fun wx => FBox wx n1 y ∧ FCells wx (a.add (j * 5)) p)) (i := 0) (oi := { dst := some 63, op := Go.Op.move (Go.Operand.tmp 6), type := 3, pos := "ref.go:53", after := #[], guard := none }) (v := ?vg0) rfl (by kernel_rfl) (by kernel_rfl) (by kernel_rfl) (fun _ _ _ h => h) (Or.inl ⟨by rfl, ?yg0⟩) HS ?rg0
                        case yg0 => (intro w hSw; obtain ⟨⟨s0, s1, s2, s3, s4⟩, q0, q1, q2, q3, q4⟩ := hSw; go_simp; first | done | with_reducible rfl | exact hwj | (intro hh; omega) | omega | simp [hkz] | simp [hge, hm2] | simp [hm3] | skip)
                        try simp only [Act.put, List.setIfInBounds_toArray, List.set_cons_zero, List.set_cons_succ]
                        refine wpAnyH_take (S := (fun wx => FBox wx n1 y ∧ FCells wx (a.add (j * 5)) p)) (i := 1) (oi := { dst := some 64, op := Go.Op.binOp Go.BinOp.gtr 3 (Go.Operand.tmp 63) (Go.Operand.const (Go.Value.int Go.IntKind.i64 0)) 3, type := 4, pos := "ref.go:53", after := #[{ on := 0, ground := Go.Ground.data }], guard := none }) (v := .bool true) rfl (by kernel_rfl) (by kernel_rfl) (by kernel_rfl) (fun _ _ _ h => h) (Or.inl ⟨by rfl, ?yg1⟩) HS ?rg1
                        case yg1 => (intro w hSw; obtain ⟨⟨s0, s1, s2, s3, s4⟩, q0, q1, q2, q3, q4⟩ := hSw; go_simp; first | done | with_reducible rfl | exact hwj | (intro hh; omega) | omega | simp [hkz] | simp [hge, hm2] | simp [hm3] | skip)
                        try simp only [Act.put, List.setIfInBounds_toArray, List.set_cons_zero, List.set_cons_succ]
                        refine wpAnyH_take (S := (fun wx => FBox wx n1 y ∧ FCells wx (a.add (j * 5)) p)) (i := 2) (oi := { dst := some 65, op := Go.Op.move (Go.Operand.tmp 64), type := 4, pos := "ref.go:53", after := #[{ on := 1, ground := Go.Ground.data }], guard := none }) (v := .bool true) rfl (by kernel_rfl) (by kernel_rfl) (by kernel_rfl) (fun _ _ _ h => h) (Or.inl ⟨by rfl, ?yg2⟩) HS ?rg2
                        case yg2 => (intro w hSw; obtain ⟨⟨s0, s1, s2, s3, s4⟩, q0, q1, q2, q3, q4⟩ := hSw; go_simp; first | done | with_reducible rfl | exact hwj | (intro hh; omega) | omega | simp [hkz] | simp [hge, hm2] | simp [hm3] | skip)
                        try simp only [Act.put, List.setIfInBounds_toArray, List.set_cons_zero, List.set_cons_succ]
                        refine wpAnyH_take (S := (fun wx => FBox wx n1 y ∧ FCells wx (a.add (j * 5)) p)) (i := 3) (oi := { dst := some 66, op := Go.Op.move (Go.Operand.tmp 4), type := 3, pos := "ref.go:53", after := #[{ on := 2, ground := Go.Ground.guard }], guard := some (2, true) }) (v := ?vg3) rfl (by kernel_rfl) (by kernel_rfl) (by kernel_rfl) (fun _ _ _ h => h) (Or.inl ⟨by rfl, ?yg3⟩) HS ?rg3
                        case yg3 => (intro w hSw; obtain ⟨⟨s0, s1, s2, s3, s4⟩, q0, q1, q2, q3, q4⟩ := hSw; go_simp; first | done | with_reducible rfl | exact hwj | (intro hh; omega) | omega | simp [hkz] | simp [hge, hm2] | simp [hm3] | skip)
                        try simp only [Act.put, List.setIfInBounds_toArray, List.set_cons_zero, List.set_cons_succ]
                        refine wpAnyH_take (S := (fun wx => FBox wx n1 y ∧ FCells wx (a.add (j * 5)) p)) (i := 4) (oi := { dst := some 67, op := Go.Op.binOp Go.BinOp.gtr 3 (Go.Operand.tmp 66) (Go.Operand.const (Go.Value.int Go.IntKind.i64 0)) 3, type := 4, pos := "ref.go:53", after := #[{ on := 3, ground := Go.Ground.data }, { on := 2, ground := Go.Ground.guard }], guard := some (2, true) }) (v := .bool true) rfl (by kernel_rfl) (by kernel_rfl) (by kernel_rfl) (fun _ _ _ h => h) (Or.inl ⟨by rfl, ?yg4⟩) HS ?rg4
                        case yg4 => (intro w hSw; obtain ⟨⟨s0, s1, s2, s3, s4⟩, q0, q1, q2, q3, q4⟩ := hSw; go_simp; first | done | with_reducible rfl | exact hwj | (intro hh; omega) | omega | simp [hkz] | simp [hge, hm2] | simp [hm3] | skip)
                        try simp only [Act.put, List.setIfInBounds_toArray, List.set_cons_zero, List.set_cons_succ]
                        refine wpAnyH_take (S := (fun wx => FBox wx n1 y ∧ FCells wx (a.add (j * 5)) p)) (i := 5) (oi := { dst := some 68, op := Go.Op.pick (Go.Operand.tmp 65) (Go.Operand.tmp 67) (Go.Operand.const (Go.Value.bool false)), type := 4, pos := "ref.go:53", after := #[{ on := 2, ground := Go.Ground.data }, { on := 4, ground := Go.Ground.data }], guard := none }) (v := .bool true) rfl (by kernel_rfl) (by kernel_rfl) (by kernel_rfl) (fun _ _ _ h => h) (Or.inl ⟨by rfl, ?yg5⟩) HS ?rg5
                        case yg5 => (intro w hSw; obtain ⟨⟨s0, s1, s2, s3, s4⟩, q0, q1, q2, q3, q4⟩ := hSw; go_simp; first | done | with_reducible rfl | exact hwj | (intro hh; omega) | omega | simp [hkz] | simp [hge, hm2] | simp [hm3] | skip)
                        try simp only [Act.put, List.setIfInBounds_toArray, List.set_cons_zero, List.set_cons_succ]
                        refine wpAnyH_take (S := (fun wx => FBox wx n1 y ∧ FCells wx (a.add (j * 5)) p)) (i := 6) (oi := { dst := some 69, op := Go.Op.move (Go.Operand.tmp 68), type := 4, pos := "ref.go:53", after := #[{ on := 5, ground := Go.Ground.data }, { on := 2, ground := Go.Ground.chain }], guard := none }) (v := .bool true) rfl (by kernel_rfl) (by kernel_rfl) (by kernel_rfl) (fun _ _ _ h => h) (Or.inl ⟨by rfl, ?yg6⟩) HS ?rg6
                        case yg6 => (intro w hSw; obtain ⟨⟨s0, s1, s2, s3, s4⟩, q0, q1, q2, q3, q4⟩ := hSw; go_simp; first | done | with_reducible rfl | exact hwj | (intro hh; omega) | omega | simp [hkz] | simp [hge, hm2] | simp [hm3] | skip)
                        try simp only [Act.put, List.setIfInBounds_toArray, List.set_cons_zero, List.set_cons_succ]
                        refine wpAnyH_take (S := (fun wx => FBox wx n1 y ∧ FCells wx (a.add (j * 5)) p)) (i := 7) (oi := { dst := some 70, op := Go.Op.move (Go.Operand.tmp 5), type := 27, pos := "ref.go:53", after := #[{ on := 6, ground := Go.Ground.guard }], guard := some (6, true) }) (v := ?vg7) rfl (by kernel_rfl) (by kernel_rfl) (by kernel_rfl) (fun _ _ _ h => h) (Or.inl ⟨by rfl, ?yg7⟩) HS ?rg7
                        case yg7 => (intro w hSw; obtain ⟨⟨s0, s1, s2, s3, s4⟩, q0, q1, q2, q3, q4⟩ := hSw; go_simp; first | done | with_reducible rfl | exact hwj | (intro hh; omega) | omega | simp [hkz] | simp [hge, hm2] | simp [hm3] | skip)
                        try simp only [Act.put, List.setIfInBounds_toArray, List.set_cons_zero, List.set_cons_succ]
                        refine wpAnyH_take (S := (fun wx => FBox wx n1 y ∧ FCells wx (a.add (j * 5)) p)) (i := 8) (oi := { dst := some 71, op := Go.Op.move (Go.Operand.tmp 6), type := 3, pos := "ref.go:53", after := #[{ on := 6, ground := Go.Ground.guard }], guard := some (6, true) }) (v := ?vg8) rfl (by kernel_rfl) (by kernel_rfl) (by kernel_rfl) (fun _ _ _ h => h) (Or.inl ⟨by rfl, ?yg8⟩) HS ?rg8
                        case yg8 => (intro w hSw; obtain ⟨⟨s0, s1, s2, s3, s4⟩, q0, q1, q2, q3, q4⟩ := hSw; go_simp; first | done | with_reducible rfl | exact hwj | (intro hh; omega) | omega | simp [hkz] | simp [hge, hm2] | simp [hm3] | skip)
                        try simp only [Act.put, List.setIfInBounds_toArray, List.set_cons_zero, List.set_cons_succ]
                        refine wpAnyH_take (S := (fun wx => FBox wx n1 y ∧ FCells wx (a.add (j * 5)) p)) (i := 9) (oi := { dst := some 72, op := Go.Op.binOp Go.BinOp.sub 3 (Go.Operand.tmp 71) (Go.Operand.const (Go.Value.int Go.IntKind.i64 1)) 3, type := 3, pos := "ref.go:53", after := #[{ on := 8, ground := Go.Ground.data }, { on := 6, ground := Go.Ground.guard }], guard := some (6, true) }) (v := .int .i64 (j : Int)) rfl (by kernel_rfl) (by kernel_rfl) (by kernel_rfl) (fun _ _ _ h => h) (Or.inl ⟨by rfl, ?yg9⟩) HS ?rg9
                        case yg9 => (intro w hSw; obtain ⟨⟨s0, s1, s2, s3, s4⟩, q0, q1, q2, q3, q4⟩ := hSw; go_simp; first | done | with_reducible rfl | exact hwj | (intro hh; omega) | omega | simp [hkz] | simp [hge, hm2] | simp [hm3] | skip)
                        try simp only [Act.put, List.setIfInBounds_toArray, List.set_cons_zero, List.set_cons_succ]
                        refine wpAnyH_take (S := (fun wx => FBox wx n1 y ∧ FCells wx (a.add (j * 5)) p)) (i := 10) (oi := { dst := some 73, op := Go.Op.indexAddr 27 (Go.Operand.tmp 70) (Go.Operand.tmp 72), type := 0, pos := "ref.go:53", after := #[{ on := 7, ground := Go.Ground.data }, { on := 9, ground := Go.Ground.data }, { on := 6, ground := Go.Ground.guard }], guard := some (6, true) }) (v := .pointer (some (a.add (j * 5)))) rfl (by kernel_rfl) (by kernel_rfl) (by kernel_rfl) (fun _ _ _ h => h) (Or.inl ⟨by rfl, ?yg10⟩) HS ?rg10
                        case yg10 => (intro w hSw; obtain ⟨⟨s0, s1, s2, s3, s4⟩, q0, q1, q2, q3, q4⟩ := hSw; go_simp; first | done | with_reducible rfl | exact hwj | (intro hh; omega) | omega | simp [hkz] | simp [hge, hm2] | simp [hm3] | skip)
                        try simp only [Act.put, List.setIfInBounds_toArray, List.set_cons_zero, List.set_cons_succ]
                        refine wpAnyH_take (S := (fun wx => FBox wx n1 y ∧ FCells wx (a.add (j * 5)) p)) (i := 11) (oi := { dst := some 74, op := Go.Op.fieldAddr 51 (Go.Operand.tmp 73) 4, type := 0, pos := "ref.go:53", after := #[{ on := 10, ground := Go.Ground.data }, { on := 6, ground := Go.Ground.guard }], guard := some (6, true) }) (v := ?vg11) rfl (by kernel_rfl) (by kernel_rfl) (by kernel_rfl) (fun _ _ _ h => h) (Or.inl ⟨by rfl, ?yg11⟩) HS ?rg11
                        case yg11 => (intro w hSw; obtain ⟨⟨s0, s1, s2, s3, s4⟩, q0, q1, q2, q3, q4⟩ := hSw; go_simp; first | done | with_reducible rfl | exact hwj | (intro hh; omega) | omega | simp [hkz] | simp [hge, hm2] | simp [hm3] | skip)
                        try simp only [Act.put, List.setIfInBounds_toArray, List.set_cons_zero, List.set_cons_succ]
                        refine wpAnyH_take (S := (fun wx => FBox wx n1 y ∧ FCells wx (a.add (j * 5)) p)) (i := 12) (oi := { dst := some 75, op := Go.Op.load 9 (Go.Operand.tmp 74), type := 9, pos := "ref.go:53", after := #[{ on := 11, ground := Go.Ground.data }, { on := 6, ground := Go.Ground.guard }], guard := some (6, true) }) (v := ?vg12) rfl (by kernel_rfl) (by kernel_rfl) (by kernel_rfl) (fun _ _ _ h => h) (Or.inl ⟨by rfl, ?yg12⟩) HS ?rg12
                        case yg12 => (intro w hSw; obtain ⟨⟨s0, s1, s2, s3, s4⟩, q0, q1, q2, q3, q4⟩ := hSw; go_simp; first | done | with_reducible rfl | exact hwj | (intro hh; omega) | omega | simp [hkz] | simp [hge, hm2] | simp [hm3] | skip)
                        try simp only [Act.put, List.setIfInBounds_toArray, List.set_cons_zero, List.set_cons_succ]
                        refine wpAnyH_take (S := (fun wx => FBox wx n1 y ∧ FCells wx (a.add (j * 5)) p)) (i := 13) (oi := { dst := some 76, op := Go.Op.fieldAddr 51 (Go.Operand.tmp 7) 3, type := 0, pos := "ref.go:53", after := #[{ on := 6, ground := Go.Ground.guard }], guard := some (6, true) }) (v := ?vg13) rfl (by kernel_rfl) (by kernel_rfl) (by kernel_rfl) (fun _ _ _ h => h) (Or.inl ⟨by rfl, ?yg13⟩) HS ?rg13
                        case yg13 => (intro w hSw; obtain ⟨⟨s0, s1, s2, s3, s4⟩, q0, q1, q2, q3, q4⟩ := hSw; go_simp; first | done | with_reducible rfl | exact hwj | (intro hh; omega) | omega | simp [hkz] | simp [hge, hm2] | simp [hm3] | skip)
                        try simp only [Act.put, List.setIfInBounds_toArray, List.set_cons_zero, List.set_cons_succ]
                        refine wpAnyH_take (S := (fun wx => FBox wx n1 y ∧ FCells wx (a.add (j * 5)) p)) (i := 14) (oi := { dst := some 77, op := Go.Op.load 9 (Go.Operand.tmp 76), type := 9, pos := "ref.go:53", after := #[{ on := 13, ground := Go.Ground.data }, { on := 6, ground := Go.Ground.guard }], guard := some (6, true) }) (v := ?vg14) rfl (by kernel_rfl) (by kernel_rfl) (by kernel_rfl) (fun _ _ _ h => h) (Or.inl ⟨by rfl, ?yg14⟩) HS ?rg14
                        case yg14 => (intro w hSw; obtain ⟨⟨s0, s1, s2, s3, s4⟩, q0, q1, q2, q3, q4⟩ := hSw; go_simp; first | done | with_reducible rfl | exact hwj | (intro hh; omega) | omega | simp [hkz] | simp [hge, hm2] | simp [hm3] | skip)
                        try simp only [Act.put, List.setIfInBounds_toArray, List.set_cons_zero, List.set_cons_succ]
                        refine wpAnyH_take (S := (fun wx => FBox wx n1 y ∧ FCells wx (a.add (j * 5)) p)) (i := 15) (oi := { dst := some 78, op := Go.Op.binOp Go.BinOp.geq 9 (Go.Operand.tmp 75) (Go.Operand.tmp 77) 9, type := 4, pos := "ref.go:53", after := #[{ on := 12, ground := Go.Ground.data }, { on := 14, ground := Go.Ground.data }, { on := 6, ground := Go.Ground.guard }], guard := some (6, true) }) (v := .bool true) rfl (by kernel_rfl) (by kernel_rfl) (by kernel_rfl) (fun _ _ _ h => h) (Or.inl ⟨by rfl, ?yg15⟩) HS ?rg15
                        case yg15 => (intro w hSw; obtain ⟨⟨s0, s1, s2, s3, s4⟩, q0, q1, q2, q3, q4⟩ := hSw; go_simp; first | done | with_reducible rfl | exact hwj | (intro hh; omega) | omega | simp [hkz] | simp [hge, hm2] | simp [hm3] | skip)
                        try simp only [Act.put, List.setIfInBounds_toArray, List.set_cons_zero, List.set_cons_succ]
                        refine wpAnyH_take (S := (fun wx => FBox wx n1 y ∧ FCells wx (a.add (j * 5)) p)) (i := 16) (oi := { dst := some 79, op := Go.Op.pick (Go.Operand.tmp 69) (Go.Operand.tmp 78) (Go.Operand.const (Go.Value.bool false)), type := 4, pos := "ref.go:53", after := #[{ on := 6, ground := Go.Ground.data }, { on := 15, ground := Go.Ground.data }], guard := none }) (v := .bool true) rfl (by kernel_rfl) (by kernel_rfl) (by kernel_rfl) (fun _ _ _ h => h) (Or.inl ⟨by rfl, ?yg16⟩) HS ?rg16
                        case yg16 => (intro w hSw; obtain ⟨⟨s0, s1, s2, s3, s4⟩, q0, q1, q2, q3, q4⟩ := hSw; go_simp; first | done | with_reducible rfl | exact hwj | (intro hh; omega) | omega | simp [hkz] | simp [hge, hm2] | simp [hm3] | skip)
                        try simp only [Act.put, List.setIfInBounds_toArray, List.set_cons_zero, List.set_cons_succ]
                        refine wpAnyH_done (by kernel_rfl) ?_ _
                        refine NoPanic.normal ?_
                        go_wp2
                        go_ret
                        exact ⟨⟨false, rfl, by simp [hnr2.out]⟩, drewn R9.out.below⟩
                      · have hok := Lib.hid ((hst.out true (by simp [hm])).1 rfl)
                        have hm2 : Op.bytesLess p.most.toList y.least.toList = true := by rw [htl, htl]; exact hm
                        have hm3 : Op.bytesLess p.most.data.toList y.least.data.toList = true := hm
                        refine wp_region_noPanic ?_
                        refine wp_region_held_drew (S := (fun wx => FBox wx n1 y ∧ FCells wx (a.add (j * 5)) p)) (by kernel_rfl) (⟨X9.out, P9.out⟩) (fun HS => ?_)
                        refine wpAnyH_take (S := (fun wx => FBox wx n1 y ∧ FCells wx (a.add (j * 5)) p)) (i := 0) (oi := { dst := some 63, op := Go.Op.move (Go.Operand.tmp 6), type := 3, pos := "ref.go:53", after := #[], guard := none }) (v := ?vh0) rfl (by kernel_rfl) (by kernel_rfl) (by kernel_rfl) (fun _ _ _ h => h) (Or.inl ⟨by rfl, ?yh0⟩) HS ?rh0
                        case yh0 => (intro w hSw; obtain ⟨⟨s0, s1, s2, s3, s4⟩, q0, q1, q2, q3, q4⟩ := hSw; go_simp; first | done | with_reducible rfl | exact hwj | (intro hh; omega) | omega | simp [hkz] | simp [hge, hm2] | simp [hm3] | skip)
                        try simp only [Act.put, List.setIfInBounds_toArray, List.set_cons_zero, List.set_cons_succ]
                        refine wpAnyH_take (S := (fun wx => FBox wx n1 y ∧ FCells wx (a.add (j * 5)) p)) (i := 1) (oi := { dst := some 64, op := Go.Op.binOp Go.BinOp.gtr 3 (Go.Operand.tmp 63) (Go.Operand.const (Go.Value.int Go.IntKind.i64 0)) 3, type := 4, pos := "ref.go:53", after := #[{ on := 0, ground := Go.Ground.data }], guard := none }) (v := .bool true) rfl (by kernel_rfl) (by kernel_rfl) (by kernel_rfl) (fun _ _ _ h => h) (Or.inl ⟨by rfl, ?yh1⟩) HS ?rh1
                        case yh1 => (intro w hSw; obtain ⟨⟨s0, s1, s2, s3, s4⟩, q0, q1, q2, q3, q4⟩ := hSw; go_simp; first | done | with_reducible rfl | exact hwj | (intro hh; omega) | omega | simp [hkz] | simp [hge, hm2] | simp [hm3] | skip)
                        try simp only [Act.put, List.setIfInBounds_toArray, List.set_cons_zero, List.set_cons_succ]
                        refine wpAnyH_take (S := (fun wx => FBox wx n1 y ∧ FCells wx (a.add (j * 5)) p)) (i := 2) (oi := { dst := some 65, op := Go.Op.move (Go.Operand.tmp 64), type := 4, pos := "ref.go:53", after := #[{ on := 1, ground := Go.Ground.data }], guard := none }) (v := .bool true) rfl (by kernel_rfl) (by kernel_rfl) (by kernel_rfl) (fun _ _ _ h => h) (Or.inl ⟨by rfl, ?yh2⟩) HS ?rh2
                        case yh2 => (intro w hSw; obtain ⟨⟨s0, s1, s2, s3, s4⟩, q0, q1, q2, q3, q4⟩ := hSw; go_simp; first | done | with_reducible rfl | exact hwj | (intro hh; omega) | omega | simp [hkz] | simp [hge, hm2] | simp [hm3] | skip)
                        try simp only [Act.put, List.setIfInBounds_toArray, List.set_cons_zero, List.set_cons_succ]
                        refine wpAnyH_take (S := (fun wx => FBox wx n1 y ∧ FCells wx (a.add (j * 5)) p)) (i := 3) (oi := { dst := some 66, op := Go.Op.move (Go.Operand.tmp 4), type := 3, pos := "ref.go:53", after := #[{ on := 2, ground := Go.Ground.guard }], guard := some (2, true) }) (v := ?vh3) rfl (by kernel_rfl) (by kernel_rfl) (by kernel_rfl) (fun _ _ _ h => h) (Or.inl ⟨by rfl, ?yh3⟩) HS ?rh3
                        case yh3 => (intro w hSw; obtain ⟨⟨s0, s1, s2, s3, s4⟩, q0, q1, q2, q3, q4⟩ := hSw; go_simp; first | done | with_reducible rfl | exact hwj | (intro hh; omega) | omega | simp [hkz] | simp [hge, hm2] | simp [hm3] | skip)
                        try simp only [Act.put, List.setIfInBounds_toArray, List.set_cons_zero, List.set_cons_succ]
                        refine wpAnyH_take (S := (fun wx => FBox wx n1 y ∧ FCells wx (a.add (j * 5)) p)) (i := 4) (oi := { dst := some 67, op := Go.Op.binOp Go.BinOp.gtr 3 (Go.Operand.tmp 66) (Go.Operand.const (Go.Value.int Go.IntKind.i64 0)) 3, type := 4, pos := "ref.go:53", after := #[{ on := 3, ground := Go.Ground.data }, { on := 2, ground := Go.Ground.guard }], guard := some (2, true) }) (v := .bool true) rfl (by kernel_rfl) (by kernel_rfl) (by kernel_rfl) (fun _ _ _ h => h) (Or.inl ⟨by rfl, ?yh4⟩) HS ?rh4
                        case yh4 => (intro w hSw; obtain ⟨⟨s0, s1, s2, s3, s4⟩, q0, q1, q2, q3, q4⟩ := hSw; go_simp; first | done | with_reducible rfl | exact hwj | (intro hh; omega) | omega | simp [hkz] | simp [hge, hm2] | simp [hm3] | skip)
                        try simp only [Act.put, List.setIfInBounds_toArray, List.set_cons_zero, List.set_cons_succ]
                        refine wpAnyH_take (S := (fun wx => FBox wx n1 y ∧ FCells wx (a.add (j * 5)) p)) (i := 5) (oi := { dst := some 68, op := Go.Op.pick (Go.Operand.tmp 65) (Go.Operand.tmp 67) (Go.Operand.const (Go.Value.bool false)), type := 4, pos := "ref.go:53", after := #[{ on := 2, ground := Go.Ground.data }, { on := 4, ground := Go.Ground.data }], guard := none }) (v := .bool true) rfl (by kernel_rfl) (by kernel_rfl) (by kernel_rfl) (fun _ _ _ h => h) (Or.inl ⟨by rfl, ?yh5⟩) HS ?rh5
                        case yh5 => (intro w hSw; obtain ⟨⟨s0, s1, s2, s3, s4⟩, q0, q1, q2, q3, q4⟩ := hSw; go_simp; first | done | with_reducible rfl | exact hwj | (intro hh; omega) | omega | simp [hkz] | simp [hge, hm2] | simp [hm3] | skip)
                        try simp only [Act.put, List.setIfInBounds_toArray, List.set_cons_zero, List.set_cons_succ]
                        refine wpAnyH_take (S := (fun wx => FBox wx n1 y ∧ FCells wx (a.add (j * 5)) p)) (i := 6) (oi := { dst := some 69, op := Go.Op.move (Go.Operand.tmp 68), type := 4, pos := "ref.go:53", after := #[{ on := 5, ground := Go.Ground.data }, { on := 2, ground := Go.Ground.chain }], guard := none }) (v := .bool true) rfl (by kernel_rfl) (by kernel_rfl) (by kernel_rfl) (fun _ _ _ h => h) (Or.inl ⟨by rfl, ?yh6⟩) HS ?rh6
                        case yh6 => (intro w hSw; obtain ⟨⟨s0, s1, s2, s3, s4⟩, q0, q1, q2, q3, q4⟩ := hSw; go_simp; first | done | with_reducible rfl | exact hwj | (intro hh; omega) | omega | simp [hkz] | simp [hge, hm2] | simp [hm3] | skip)
                        try simp only [Act.put, List.setIfInBounds_toArray, List.set_cons_zero, List.set_cons_succ]
                        refine wpAnyH_take (S := (fun wx => FBox wx n1 y ∧ FCells wx (a.add (j * 5)) p)) (i := 7) (oi := { dst := some 70, op := Go.Op.move (Go.Operand.tmp 5), type := 27, pos := "ref.go:53", after := #[{ on := 6, ground := Go.Ground.guard }], guard := some (6, true) }) (v := ?vh7) rfl (by kernel_rfl) (by kernel_rfl) (by kernel_rfl) (fun _ _ _ h => h) (Or.inl ⟨by rfl, ?yh7⟩) HS ?rh7
                        case yh7 => (intro w hSw; obtain ⟨⟨s0, s1, s2, s3, s4⟩, q0, q1, q2, q3, q4⟩ := hSw; go_simp; first | done | with_reducible rfl | exact hwj | (intro hh; omega) | omega | simp [hkz] | simp [hge, hm2] | simp [hm3] | skip)
                        try simp only [Act.put, List.setIfInBounds_toArray, List.set_cons_zero, List.set_cons_succ]
                        refine wpAnyH_take (S := (fun wx => FBox wx n1 y ∧ FCells wx (a.add (j * 5)) p)) (i := 8) (oi := { dst := some 71, op := Go.Op.move (Go.Operand.tmp 6), type := 3, pos := "ref.go:53", after := #[{ on := 6, ground := Go.Ground.guard }], guard := some (6, true) }) (v := ?vh8) rfl (by kernel_rfl) (by kernel_rfl) (by kernel_rfl) (fun _ _ _ h => h) (Or.inl ⟨by rfl, ?yh8⟩) HS ?rh8
                        case yh8 => (intro w hSw; obtain ⟨⟨s0, s1, s2, s3, s4⟩, q0, q1, q2, q3, q4⟩ := hSw; go_simp; first | done | with_reducible rfl | exact hwj | (intro hh; omega) | omega | simp [hkz] | simp [hge, hm2] | simp [hm3] | skip)
                        try simp only [Act.put, List.setIfInBounds_toArray, List.set_cons_zero, List.set_cons_succ]
                        refine wpAnyH_take (S := (fun wx => FBox wx n1 y ∧ FCells wx (a.add (j * 5)) p)) (i := 9) (oi := { dst := some 72, op := Go.Op.binOp Go.BinOp.sub 3 (Go.Operand.tmp 71) (Go.Operand.const (Go.Value.int Go.IntKind.i64 1)) 3, type := 3, pos := "ref.go:53", after := #[{ on := 8, ground := Go.Ground.data }, { on := 6, ground := Go.Ground.guard }], guard := some (6, true) }) (v := .int .i64 (j : Int)) rfl (by kernel_rfl) (by kernel_rfl) (by kernel_rfl) (fun _ _ _ h => h) (Or.inl ⟨by rfl, ?yh9⟩) HS ?rh9
                        case yh9 => (intro w hSw; obtain ⟨⟨s0, s1, s2, s3, s4⟩, q0, q1, q2, q3, q4⟩ := hSw; go_simp; first | done | with_reducible rfl | exact hwj | (intro hh; omega) | omega | simp [hkz] | simp [hge, hm2] | simp [hm3] | skip)
                        try simp only [Act.put, List.setIfInBounds_toArray, List.set_cons_zero, List.set_cons_succ]
                        refine wpAnyH_take (S := (fun wx => FBox wx n1 y ∧ FCells wx (a.add (j * 5)) p)) (i := 10) (oi := { dst := some 73, op := Go.Op.indexAddr 27 (Go.Operand.tmp 70) (Go.Operand.tmp 72), type := 0, pos := "ref.go:53", after := #[{ on := 7, ground := Go.Ground.data }, { on := 9, ground := Go.Ground.data }, { on := 6, ground := Go.Ground.guard }], guard := some (6, true) }) (v := .pointer (some (a.add (j * 5)))) rfl (by kernel_rfl) (by kernel_rfl) (by kernel_rfl) (fun _ _ _ h => h) (Or.inl ⟨by rfl, ?yh10⟩) HS ?rh10
                        case yh10 => (intro w hSw; obtain ⟨⟨s0, s1, s2, s3, s4⟩, q0, q1, q2, q3, q4⟩ := hSw; go_simp; first | done | with_reducible rfl | exact hwj | (intro hh; omega) | omega | simp [hkz] | simp [hge, hm2] | simp [hm3] | skip)
                        try simp only [Act.put, List.setIfInBounds_toArray, List.set_cons_zero, List.set_cons_succ]
                        refine wpAnyH_take (S := (fun wx => FBox wx n1 y ∧ FCells wx (a.add (j * 5)) p)) (i := 11) (oi := { dst := some 74, op := Go.Op.fieldAddr 51 (Go.Operand.tmp 73) 4, type := 0, pos := "ref.go:53", after := #[{ on := 10, ground := Go.Ground.data }, { on := 6, ground := Go.Ground.guard }], guard := some (6, true) }) (v := ?vh11) rfl (by kernel_rfl) (by kernel_rfl) (by kernel_rfl) (fun _ _ _ h => h) (Or.inl ⟨by rfl, ?yh11⟩) HS ?rh11
                        case yh11 => (intro w hSw; obtain ⟨⟨s0, s1, s2, s3, s4⟩, q0, q1, q2, q3, q4⟩ := hSw; go_simp; first | done | with_reducible rfl | exact hwj | (intro hh; omega) | omega | simp [hkz] | simp [hge, hm2] | simp [hm3] | skip)
                        try simp only [Act.put, List.setIfInBounds_toArray, List.set_cons_zero, List.set_cons_succ]
                        refine wpAnyH_take (S := (fun wx => FBox wx n1 y ∧ FCells wx (a.add (j * 5)) p)) (i := 12) (oi := { dst := some 75, op := Go.Op.load 9 (Go.Operand.tmp 74), type := 9, pos := "ref.go:53", after := #[{ on := 11, ground := Go.Ground.data }, { on := 6, ground := Go.Ground.guard }], guard := some (6, true) }) (v := ?vh12) rfl (by kernel_rfl) (by kernel_rfl) (by kernel_rfl) (fun _ _ _ h => h) (Or.inl ⟨by rfl, ?yh12⟩) HS ?rh12
                        case yh12 => (intro w hSw; obtain ⟨⟨s0, s1, s2, s3, s4⟩, q0, q1, q2, q3, q4⟩ := hSw; go_simp; first | done | with_reducible rfl | exact hwj | (intro hh; omega) | omega | simp [hkz] | simp [hge, hm2] | simp [hm3] | skip)
                        try simp only [Act.put, List.setIfInBounds_toArray, List.set_cons_zero, List.set_cons_succ]
                        refine wpAnyH_take (S := (fun wx => FBox wx n1 y ∧ FCells wx (a.add (j * 5)) p)) (i := 13) (oi := { dst := some 76, op := Go.Op.fieldAddr 51 (Go.Operand.tmp 7) 3, type := 0, pos := "ref.go:53", after := #[{ on := 6, ground := Go.Ground.guard }], guard := some (6, true) }) (v := ?vh13) rfl (by kernel_rfl) (by kernel_rfl) (by kernel_rfl) (fun _ _ _ h => h) (Or.inl ⟨by rfl, ?yh13⟩) HS ?rh13
                        case yh13 => (intro w hSw; obtain ⟨⟨s0, s1, s2, s3, s4⟩, q0, q1, q2, q3, q4⟩ := hSw; go_simp; first | done | with_reducible rfl | exact hwj | (intro hh; omega) | omega | simp [hkz] | simp [hge, hm2] | simp [hm3] | skip)
                        try simp only [Act.put, List.setIfInBounds_toArray, List.set_cons_zero, List.set_cons_succ]
                        refine wpAnyH_take (S := (fun wx => FBox wx n1 y ∧ FCells wx (a.add (j * 5)) p)) (i := 14) (oi := { dst := some 77, op := Go.Op.load 9 (Go.Operand.tmp 76), type := 9, pos := "ref.go:53", after := #[{ on := 13, ground := Go.Ground.data }, { on := 6, ground := Go.Ground.guard }], guard := some (6, true) }) (v := ?vh14) rfl (by kernel_rfl) (by kernel_rfl) (by kernel_rfl) (fun _ _ _ h => h) (Or.inl ⟨by rfl, ?yh14⟩) HS ?rh14
                        case yh14 => (intro w hSw; obtain ⟨⟨s0, s1, s2, s3, s4⟩, q0, q1, q2, q3, q4⟩ := hSw; go_simp; first | done | with_reducible rfl | exact hwj | (intro hh; omega) | omega | simp [hkz] | simp [hge, hm2] | simp [hm3] | skip)
                        try simp only [Act.put, List.setIfInBounds_toArray, List.set_cons_zero, List.set_cons_succ]
                        refine wpAnyH_take (S := (fun wx => FBox wx n1 y ∧ FCells wx (a.add (j * 5)) p)) (i := 15) (oi := { dst := some 78, op := Go.Op.binOp Go.BinOp.geq 9 (Go.Operand.tmp 75) (Go.Operand.tmp 77) 9, type := 4, pos := "ref.go:53", after := #[{ on := 12, ground := Go.Ground.data }, { on := 14, ground := Go.Ground.data }, { on := 6, ground := Go.Ground.guard }], guard := some (6, true) }) (v := .bool false) rfl (by kernel_rfl) (by kernel_rfl) (by kernel_rfl) (fun _ _ _ h => h) (Or.inl ⟨by rfl, ?yh15⟩) HS ?rh15
                        case yh15 => (intro w hSw; obtain ⟨⟨s0, s1, s2, s3, s4⟩, q0, q1, q2, q3, q4⟩ := hSw; go_simp; first | done | with_reducible rfl | exact hwj | (intro hh; omega) | omega | simp [hkz] | simp [hge, hm2] | simp [hm3] | skip)
                        try simp only [Act.put, List.setIfInBounds_toArray, List.set_cons_zero, List.set_cons_succ]
                        refine wpAnyH_take (S := (fun wx => FBox wx n1 y ∧ FCells wx (a.add (j * 5)) p)) (i := 16) (oi := { dst := some 79, op := Go.Op.pick (Go.Operand.tmp 69) (Go.Operand.tmp 78) (Go.Operand.const (Go.Value.bool false)), type := 4, pos := "ref.go:53", after := #[{ on := 6, ground := Go.Ground.data }, { on := 15, ground := Go.Ground.data }], guard := none }) (v := .bool false) rfl (by kernel_rfl) (by kernel_rfl) (by kernel_rfl) (fun _ _ _ h => h) (Or.inl ⟨by rfl, ?yh16⟩) HS ?rh16
                        case yh16 => (intro w hSw; obtain ⟨⟨s0, s1, s2, s3, s4⟩, q0, q1, q2, q3, q4⟩ := hSw; go_simp; first | done | with_reducible rfl | exact hwj | (intro hh; omega) | omega | simp [hkz] | simp [hge, hm2] | simp [hm3] | skip)
                        try simp only [Act.put, List.setIfInBounds_toArray, List.set_cons_zero, List.set_cons_succ]
                        refine wpAnyH_done (by kernel_rfl) ?_ _
                        refine NoPanic.normal ?_
                        go_wp2
                        go_roundw
                        case rel => exact ⟨j + 1 + 1, by omega, by go_num, by
                          have e := hpn.out
                          rw [hy] at e
                          rw [e]
                          exact rs_on R9.out ⟨rfl, rfl, rfl, Nat.le_refl _, fun _ _ => rfl⟩, fun n hn => by
                          by_cases e : n = j + 1
                          · subst e; exact hok.out
                          · exact hnow.out n (by omega), hnx.out⟩
                        case measure => simp [intOf]; omega
          · have hcz : (chkA (atl k y) == 0) = false := by simpa using hc
            have hcz2 : (chkA (atl k y) != 0) = true := by simp [bne, hcz]
            have hnr := Lib.hid (hno.out hc)
            clear hc
            generalize chkA (atl k y) = z at *
            go_wp2_with (go_at_call 14; (with_reducible refine (HC.out _ AR.out).mono ?_); rintro e w2 ⟨rfl, hb2⟩; have B2 := Lib.hid hb2; clear hb2)
            go_ret
            exact ⟨⟨false, rfl, by simp [hnr.out]⟩, (rs_on R1.out B2.out).below⟩
        · have hj2 : j = (L k).length := by omega
          subst hj2
          rw [part_full] at hrs hnd
          replace hrs := Lib.hid hrs
          go_wp2
          go_roundw
          case rel => exact ⟨k + 1, by omega, by go_num, hrs.out, fun i hi n => by
            by_cases e : i = k
            · subst e
              by_cases hn : n < (L i).length
              · exact hnow.out n hn
              · exact fun h2 => absurd h2 hn
            · exact hall.out i (by omega) n, hnd.out⟩
          case measure => simp [intOf]; omega
    · have hk4 : k = 4 := by omega
      subst hk4
      have hbel := Lib.hid hrs.below
      have hri := Lib.hid (show right L from ⟨hall, hnd⟩)
      clear hrs hall hnd
      go_wp2
      go_ret
      exact ⟨⟨true, rfl, by simp [hri.out]⟩, hbel.out⟩
end Go.Proofs.YtkocekogkpemiaaDoor.Ve
