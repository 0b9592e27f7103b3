/-
  The Go text of versions, walked: Right. Conditions: as each theorem states.
-/
import Derived.Test.YtkocekogkpemiaaDoorVeC
import Derived.Deep.RegionHeld3
namespace Go.Proofs.YtkocekogkpemiaaDoor.Ve
open Go.RowKit
open Go.Proofs.YtkocekogkpemiaaDoor
open Vi Ba Ed

/-- Right under way -/
structure Rt (w : World) (L : Nat → List Fil) (o : Obj) (k j : Nat) (wr : World) : Prop where
  below : Below w.heap.size w wr
  box : wr.heap[w.heap.size]? = some o
  map : SMap wr (w.heap.size + 1) (part L k j).reverse
  all : ∀ i, i < k → ∀ n, okF i (L i) n
  now : ∀ n, n < j → okF k (L k) n
theorem rt_on {w W W' : World} {L : Nat → List Fil} {o : Obj} {k j : Nat} (h : Rt w L o k j W) (hb : Below W.heap.size W W') : Rt w L o k j W' :=
  ⟨h.below.trans (hb.mono h.below.size), (hb.block _ (Array.getElem?_eq_some_iff.1 h.box).1).trans h.box, smap_kept h.map (hb.block _ (smap_lt h.map)), h.all, h.now⟩
theorem rt_start (w : World) (L : Nat → List Fil) (c : Array Value) (t : TypeId) : Rt w L (.cells c t (0, 0)) 0 0 ((w.alloc (.cells c t)).alloc (.map #[] 0)) := by
  have h := two_new w (.cells c t) (.map #[] 0)
  refine ⟨h, ?_, ?_, fun i hi => by omega, fun n hn => by omega⟩
  · rw [(MapKept.heap_alloc (w.alloc (.cells c t)) _).2 w.heap.size (by simp)]
    exact (MapKept.heap_alloc w _).1
  · have := smap_new (w.alloc (.cells c t))
    rw [show (w.alloc (.cells c t)).heap.size = w.heap.size + 1 by simp] at this
    exact this
theorem rt_level {w W : World} {L : Nat → List Fil} {o : Obj} {k : Nat} (h : Rt w L o k (L k).length W) : Rt w L o (k + 1) 0 W :=
  ⟨h.below, h.box, by rw [part_zero, ← part_full]; exact h.map, fun i hi n => by
    by_cases e : i = k
    · subst e
      by_cases hn : n < (L i).length
      · exact h.now n hn
      · exact fun h2 => absurd h2 hn
    · exact h.all i (by omega) n, fun n hn => by omega⟩
theorem rt_put {w W : World} {L : Nat → List Fil} {o : Obj} {k j : Nat} (h : Rt w L o k j W) (hj : j < (L k).length) (hl : (part L k j).length < maxLen) (hok : okF k (L k) j) (hn : (L k)[j].number < 18446744073709551616) :
    ∃ W', (Instr.mapUpdate 52 (.map (some (w.heap.size + 1))) (.int .u64 ((L k)[j].number : Int)) (.agg #[])).run Tryd.prog W = .ok () W' ∧ Rt w L o k (j + 1) W' := by
  obtain ⟨W', hrun, hm, hg⟩ := smap_put h.map (by simpa using hl) hn
  refine ⟨W', hrun, ⟨?_, ?_, ?_, h.all, ?_⟩⟩
  · exact ⟨hg.os.trans h.below.os, hg.tape.trans h.below.tape, hg.output.trans h.below.output, Nat.le_trans h.below.size hg.size, fun i hi => (hg.block i (by have := h.below.size; omega) (by simp; omega)).trans (h.below.block i hi)⟩
  · exact (hg.block _ (Array.getElem?_eq_some_iff.1 h.box).1 (by simp)).trans h.box
  · rw [part_next L k hj, List.reverse_append]
    exact hm
  · intro n hlt
    by_cases e : n = j
    · subst e; exact hok
    · exact h.now n (by omega)
theorem okF_of {L : Nat → List Fil} {k j : Nat} (hj : j < (L k).length) (h1 : chkA (atl k (L k)[j]) = 0) (h2 : ∀ _ : 0 < j, standsB k ((L k)[j - 1]'(by omega)) (L k)[j] = true) : okF k (L k) j := fun _ => ⟨h1, h2⟩
def OuR (w : World) (L : Nat → List Fil) (o : Obj) (i : Value) (wr : World) : Prop := ∃ k : Nat, k ≤ 4 ∧ i = .int .i64 (k : Nat) ∧ Rt w L o k 0 wr
def InR (w : World) (L : Nat → List Fil) (o : Obj) (k : Nat) (i : Value) (wr : World) : Prop := ∃ j : Nat, j ≤ (L k).length ∧ i = .int .i64 (j : Nat) ∧ Rt w L o k j wr
def RiPost (w : World) (L : Nat → List Fil) (e : Ending) (w' : World) : Prop := (∃ b : Bool, e = .returned (.bool b) ∧ (b = true ↔ right L)) ∧ Below w.heap.size w w'
def box5 (x : Fil) : Obj := .cells #[.int .u64 x.number, .int .u64 x.size, .int .u64 x.count, .string x.least, .string x.most] 34
def FBox (W : World) (n : Nat) (x : Fil) : Prop := W.cell? ⟨n, 0, none⟩ = some (.int .u64 x.number) ∧ W.cell? ⟨n, 1, none⟩ = some (.int .u64 x.size) ∧ W.cell? ⟨n, 2, none⟩ = some (.int .u64 x.count) ∧ W.cell? ⟨n, 3, none⟩ = some (.string x.least) ∧ W.cell? ⟨n, 4, none⟩ = some (.string x.most)
theorem undrew {W W' : World} (h : Below W.drew.heap.size W.drew W') : Below W.heap.size W W' := ⟨h.os, h.tape, h.output, h.size, h.block⟩
theorem fbox_on {W W' : World} {n : Nat} {x : Fil} (h : Hid (FBox W n x)) (hb : Below W.drew.heap.size W.drew W') : FBox W' n x := by
  obtain ⟨c0, c1, c2, c3, c4⟩ := h.out
  have hn : n < W.heap.size := cell_lt (p := ⟨n, 0, none⟩) c0
  have k : ∀ j : Nat, W'.cell? ⟨n, j, none⟩ = W.cell? ⟨n, j, none⟩ := fun j => hb.cell (p := ⟨n, j, none⟩) hn
  exact ⟨(k 0).trans c0, (k 1).trans c1, (k 2).trans c2, (k 3).trans c3, (k 4).trans c4⟩
theorem fbox_next {W W' : World} {n : Nat} {x : Fil} (h : FBox W n x) (hb : Below W.heap.size W W') : FBox W' n x := by
  obtain ⟨c0, c1, c2, c3, c4⟩ := h
  have hn : n < W.heap.size := cell_lt (p := ⟨n, 0, none⟩) c0
  have k : ∀ j : Nat, W'.cell? ⟨n, j, none⟩ = W.cell? ⟨n, j, none⟩ := fun j => hb.cell (p := ⟨n, j, none⟩) hn
  exact ⟨(k 0).trans c0, (k 1).trans c1, (k 2).trans c2, (k 3).trans c3, (k 4).trans c4⟩
theorem fcells_lt {W : World} {q : Addr} {x : Fil} (h : FCells W q x) : q.block < W.heap.size := cell_lt h.1
theorem fcells_new (w : World) (x : Fil) : FBox (w.alloc (.cells #[.int .u64 x.number, .int .u64 x.size, .int .u64 x.count, .string x.least, .string x.most] 34)) w.heap.size x := by
  have h := heap_alloc_new w (.cells #[.int .u64 x.number, .int .u64 x.size, .int .u64 x.count, .string x.least, .string x.most] 34)
  exact ⟨cell_in h 0 _ rfl, cell_in h 1 _ rfl, cell_in h 2 _ rfl, cell_in h 3 _ rfl, cell_in h 4 _ rfl⟩
set_option maxHeartbeats 2000000 in
set_option maxRecDepth 100000 in
theorem right_any {w : World} (L : Nat → List Fil) (A : Nat → Option Addr) (C : Nat → Nat) (H : VLies w L A) :
    Calls Tryd.prog 6 #[vval L A C] w (RiPost w L) := by
  have HC := Lib.hid (count_any L A C H.len)
  have HL := Lib.hid H.len
  have HO := Lib.hid H.ok
  have HR := Lib.hid H.row
  clear H
  unfold vval at *
  have hmm := @run_makeMap Tryd.prog
  go_enter Tryd.func6, Tryd.ntmps6
  go_wp2
  go_loopw [11] (OuR w L (.cells #[.slice (A 0) (L 0).length (C 0), .slice (A 1) (L 1).length (C 1), .slice (A 2) (L 2).length (C 2), .slice (A 3) (L 3).length (C 3)] 26 (0, 0))) (fun i _ => 4 - (intOf i).toNat)
  case atStart => exact ⟨0, by omega, rfl, rt_start w L _ _⟩
  case round =>
    obtain ⟨k, hk, rfl, hrt⟩ := hrel
    by_cases hlt : k < 4
    · have hi := idx_any L A C hlt
      have h2 := HL.out k hlt
      have h4 : (k : Int) < 4 := by omega
      replace hrt := Lib.hid hrt
      have hRk := Lib.hid (HR.out k hlt)
      generalize A k = ak at *
      go_wp2
      go_loopw [17] (InR w L (.cells #[.slice (A 0) (L 0).length (C 0), .slice (A 1) (L 1).length (C 1), .slice (A 2) (L 2).length (C 2), .slice (A 3) (L 3).length (C 3)] 26 (0, 0)) k) (fun i _ => (L k).length - (intOf i).toNat)
      case atStart => exact ⟨0, by omega, rfl, hrt.out⟩
      case round =>
        obtain ⟨j, hj, rfl, hr⟩ := hrel
        by_cases hlj : j < (L k).length
        · obtain ⟨a, rfl, hab, hca⟩ := hRk.out (by omega)
          have hbl : (a.add (j * 5)).block < w.heap.size := by rw [block_add]; exact hab
          obtain ⟨x0, x1, x2, x3, x4⟩ := (hca j hlj).on hbl hr.below
          have hx := Lib.hid (HO.out k hlt _ (List.getElem_mem hlj))
          have HR1 := Lib.hid hr
          clear hr
          generalize hy : (L k)[j] = y at *
          go_wp2
          clear x0 x1 x2 x3 x4
          have R1 := Lib.hid (rt_on HR1.out ((Below.refl _ _).alloc (Nat.le_refl _) (.cells #[.int .u64 y.number, .int .u64 y.size, .int .u64 y.count, .string y.least, .string y.most] 34)))
          have CC := fcells_new wr y
          generalize (wr.alloc (.cells #[.int .u64 y.number, .int .u64 y.size, .int .u64 y.count, .string y.least, .string y.most] 34)) = w1 at *
          generalize wr.heap.size = n1 at *
          have X1 := Lib.hid CC
          obtain ⟨x0, x1, x2, x3, x4⟩ := CC
          have HM := come_any k hlt y hx.out
          unfold fval at HM
          by_cases hc : chkA (atl k y) = 0
          · rw [decide_eq_true hc] at HM
            replace HM := Lib.hid HM
            have hlp : (part L k j).length < maxLen := by
              have e1 := nums_le HL.out k hk
              unfold part
              rw [List.length_append, List.length_map, List.length_take]
              have : maxLen = 9223372036854775807 := rfl
              omega
            rcases j with _ | j
            · have hok : okF k (L k) 0 := okF_of hlj (by rw [hy]; exact hc) (fun h0 => by omega)
              replace hok := Lib.hid hok
              replace hlp := Lib.hid hlp
              clear hc
              refine wp_region_noPanic ?_
              refine wp_region_held_drew (S := (fun wx => FBox wx n1 y)) (by kernel_rfl) (X1.out) (fun HS => ?_)
              refine wpAnyH_take (S := (fun wx => FBox wx n1 y)) (i := 0) (oi := { dst := some 22, op := Go.Op.move (Go.Operand.tmp 4), type := 3, pos := "version.go:51", after := #[], guard := none }) (v := ?vb0) rfl (by kernel_rfl) (by kernel_rfl) (by kernel_rfl) (fun _ _ _ h => h) (Or.inl ⟨by rfl, ?yb0⟩) HS ?rb0
              case yb0 => (intro w hSw; obtain ⟨s0, s1, s2, s3, s4⟩ := hSw; go_simp; first | done | with_reducible rfl | exact hwj | (intro hh; omega) | skip)
              try simp only [Act.put, List.setIfInBounds_toArray, List.set_cons_zero, List.set_cons_succ]
              refine wpAnyH_take (S := (fun wx => FBox wx n1 y)) (i := 1) (oi := { dst := some 23, op := Go.Op.load 34 (Go.Operand.tmp 7), type := 34, pos := "version.go:51", after := #[], guard := none }) (v := ?vb1) rfl (by kernel_rfl) (by kernel_rfl) (by kernel_rfl) (fun _ _ _ h => h) (Or.inl ⟨by rfl, ?yb1⟩) HS ?rb1
              case yb1 => (intro w hSw; obtain ⟨s0, s1, s2, s3, s4⟩ := hSw; go_simp; first | done | with_reducible rfl | exact hwj | (intro hh; omega) | skip)
              try simp only [Act.put, List.setIfInBounds_toArray, List.set_cons_zero, List.set_cons_succ]
              refine wpAnyH_ready (rs := [2]) (by kernel_rfl) (by simp) ?_
              refine AllReadyH.cons (o := { dst := some 24, op := Go.Op.call { callee := Go.Callee.value (Go.Operand.func 12), args := #[Go.Operand.tmp 22, Go.Operand.tmp 23], argTypes := #[3, 34] }, type := 4, pos := "version.go:51", after := #[{ on := 0, ground := Go.Ground.data }, { on := 1, ground := Go.Ground.data }], guard := none }) rfl (fun K hK => ?_) AllReadyH.nil
              go_simp
              refine (HM.out _).mono ?_; rintro e w2 ⟨rfl, hb2⟩
              refine hK.out _ _ (fbox_on X1 hb2) (fun HS => ?_)
              try simp only [Act.put, List.setIfInBounds_toArray, List.set_cons_zero, List.set_cons_succ]
              refine wpAnyH_take (S := (fun wx => FBox wx n1 y)) (i := 3) (oi := { dst := some 25, op := Go.Op.unOp Go.UnOp.not 4 (Go.Operand.tmp 24), type := 4, pos := "version.go:51", after := #[{ on := 2, ground := Go.Ground.data }], guard := none }) (v := .bool false) rfl (by kernel_rfl) (by kernel_rfl) (by kernel_rfl) (fun _ _ _ h => h) (Or.inl ⟨by rfl, ?yb3⟩) HS ?rb3
              case yb3 => (intro w hSw; obtain ⟨s0, s1, s2, s3, s4⟩ := hSw; go_simp; first | done | with_reducible rfl | exact hwj | (intro hh; omega) | skip)
              try simp only [Act.put, List.setIfInBounds_toArray, List.set_cons_zero, List.set_cons_succ]
              refine wpAnyH_take (S := (fun wx => FBox wx n1 y)) (i := 4) (oi := { dst := some 26, op := Go.Op.move (Go.Operand.tmp 25), type := 4, pos := "version.go:51", after := #[{ on := 3, ground := Go.Ground.data }, { on := 2, ground := Go.Ground.chain }], guard := none }) (v := .bool false) rfl (by kernel_rfl) (by kernel_rfl) (by kernel_rfl) (fun _ _ _ h => h) (Or.inl ⟨by rfl, ?yb4⟩) HS ?rb4
              case yb4 => (intro w hSw; obtain ⟨s0, s1, s2, s3, s4⟩ := hSw; go_simp; first | done | with_reducible rfl | exact hwj | (intro hh; omega) | skip)
              try simp only [Act.put, List.setIfInBounds_toArray, List.set_cons_zero, List.set_cons_succ]
              refine wpAnyH_take (S := (fun wx => FBox wx n1 y)) (i := 5) (oi := { dst := some 27, op := Go.Op.move (Go.Operand.tmp 6), type := 3, pos := "version.go:51", after := #[{ on := 4, ground := Go.Ground.guard }], guard := some (4, false) }) (v := ?vb5) rfl (by kernel_rfl) (by kernel_rfl) (by kernel_rfl) (fun _ _ _ h => h) (Or.inl ⟨by rfl, ?yb5⟩) HS ?rb5
              case yb5 => (intro w hSw; obtain ⟨s0, s1, s2, s3, s4⟩ := hSw; go_simp; first | done | with_reducible rfl | exact hwj | (intro hh; omega) | skip)
              try simp only [Act.put, List.setIfInBounds_toArray, List.set_cons_zero, List.set_cons_succ]
              refine wpAnyH_take (S := (fun wx => FBox wx n1 y)) (i := 6) (oi := { dst := some 28, op := Go.Op.binOp Go.BinOp.gtr 3 (Go.Operand.tmp 27) (Go.Operand.const (Go.Value.int Go.IntKind.i64 0)) 3, type := 4, pos := "version.go:51", after := #[{ on := 5, ground := Go.Ground.data }, { on := 4, ground := Go.Ground.guard }], guard := some (4, false) }) (v := .bool false) rfl (by kernel_rfl) (by kernel_rfl) (by kernel_rfl) (fun _ _ _ h => h) (Or.inl ⟨by rfl, ?yb6⟩) HS ?rb6
              case yb6 => (intro w hSw; obtain ⟨s0, s1, s2, s3, s4⟩ := hSw; go_simp; first | done | with_reducible rfl | exact hwj | (intro hh; omega) | skip)
              try simp only [Act.put, List.setIfInBounds_toArray, List.set_cons_zero, List.set_cons_succ]
              refine wpAnyH_take (S := (fun wx => FBox wx n1 y)) (i := 7) (oi := { dst := some 29, op := Go.Op.move (Go.Operand.tmp 28), type := 4, pos := "version.go:51", after := #[{ on := 6, ground := Go.Ground.data }, { on := 4, ground := Go.Ground.chain }, { on := 4, ground := Go.Ground.guard }], guard := some (4, false) }) (v := .bool false) rfl (by kernel_rfl) (by kernel_rfl) (by kernel_rfl) (fun _ _ _ h => h) (Or.inl ⟨by rfl, ?yb7⟩) HS ?rb7
              case yb7 => (intro w hSw; obtain ⟨s0, s1, s2, s3, s4⟩ := hSw; go_simp; first | done | with_reducible rfl | exact hwj | (intro hh; omega) | skip)
              try simp only [Act.put, List.setIfInBounds_toArray, List.set_cons_zero, List.set_cons_succ]
              refine wpAnyH_take (S := (fun wx => FBox wx n1 y)) (i := 8) (oi := { dst := some 30, op := Go.Op.move (Go.Operand.tmp 4), type := 3, pos := "version.go:51", after := #[{ on := 7, ground := Go.Ground.guard }], guard := some (7, true) }) (v := undef) rfl (by kernel_rfl) (by kernel_rfl) (by kernel_rfl) (fun _ _ _ h => h) (Or.inr ⟨by rfl, rfl⟩) HS ?rb8
              try simp only [Act.put, List.setIfInBounds_toArray, List.set_cons_zero, List.set_cons_succ]
              refine wpAnyH_take (S := (fun wx => FBox wx n1 y)) (i := 9) (oi := { dst := some 31, op := Go.Op.move (Go.Operand.tmp 5), type := 22, pos := "version.go:51", after := #[{ on := 7, ground := Go.Ground.guard }], guard := some (7, true) }) (v := undef) rfl (by kernel_rfl) (by kernel_rfl) (by kernel_rfl) (fun _ _ _ h => h) (Or.inr ⟨by rfl, rfl⟩) HS ?rb9
              try simp only [Act.put, List.setIfInBounds_toArray, List.set_cons_zero, List.set_cons_succ]
              refine wpAnyH_take (S := (fun wx => FBox wx n1 y)) (i := 10) (oi := { dst := some 32, op := Go.Op.move (Go.Operand.tmp 6), type := 3, pos := "version.go:51", after := #[{ on := 7, ground := Go.Ground.guard }], guard := some (7, true) }) (v := undef) rfl (by kernel_rfl) (by kernel_rfl) (by kernel_rfl) (fun _ _ _ h => h) (Or.inr ⟨by rfl, rfl⟩) HS ?rb10
              try simp only [Act.put, List.setIfInBounds_toArray, List.set_cons_zero, List.set_cons_succ]
              refine wpAnyH_take (S := (fun wx => FBox wx n1 y)) (i := 11) (oi := { dst := some 33, op := Go.Op.binOp Go.BinOp.sub 3 (Go.Operand.tmp 32) (Go.Operand.const (Go.Value.int Go.IntKind.i64 1)) 3, type := 3, pos := "version.go:51", after := #[{ on := 10, ground := Go.Ground.data }, { on := 7, ground := Go.Ground.guard }], guard := some (7, true) }) (v := undef) rfl (by kernel_rfl) (by kernel_rfl) (by kernel_rfl) (fun _ _ _ h => h) (Or.inr ⟨by rfl, rfl⟩) HS ?rb11
              try simp only [Act.put, List.setIfInBounds_toArray, List.set_cons_zero, List.set_cons_succ]
              refine wpAnyH_take (S := (fun wx => FBox wx n1 y)) (i := 12) (oi := { dst := some 34, op := Go.Op.indexAddr 22 (Go.Operand.tmp 31) (Go.Operand.tmp 33), type := 0, pos := "version.go:51", after := #[{ on := 9, ground := Go.Ground.data }, { on := 11, ground := Go.Ground.data }, { on := 7, ground := Go.Ground.guard }], guard := some (7, true) }) (v := undef) rfl (by kernel_rfl) (by kernel_rfl) (by kernel_rfl) (fun _ _ _ h => h) (Or.inr ⟨by rfl, rfl⟩) HS ?rb12
              try simp only [Act.put, List.setIfInBounds_toArray, List.set_cons_zero, List.set_cons_succ]
              refine wpAnyH_take (S := (fun wx => FBox wx n1 y)) (i := 13) (oi := { dst := some 35, op := Go.Op.load 34 (Go.Operand.tmp 34), type := 34, pos := "version.go:51", after := #[{ on := 12, ground := Go.Ground.data }, { on := 7, ground := Go.Ground.guard }], guard := some (7, true) }) (v := undef) rfl (by kernel_rfl) (by kernel_rfl) (by kernel_rfl) (fun _ _ _ h => h) (Or.inr ⟨by rfl, rfl⟩) HS ?rb13
              try simp only [Act.put, List.setIfInBounds_toArray, List.set_cons_zero, List.set_cons_succ]
              refine wpAnyH_take (S := (fun wx => FBox wx n1 y)) (i := 14) (oi := { dst := some 36, op := Go.Op.load 34 (Go.Operand.tmp 7), type := 34, pos := "version.go:51", after := #[{ on := 7, ground := Go.Ground.guard }], guard := some (7, true) }) (v := undef) rfl (by kernel_rfl) (by kernel_rfl) (by kernel_rfl) (fun _ _ _ h => h) (Or.inr ⟨by rfl, rfl⟩) HS ?rb14
              try simp only [Act.put, List.setIfInBounds_toArray, List.set_cons_zero, List.set_cons_succ]
              refine wpAnyH_take (S := (fun wx => FBox wx n1 y)) (i := 15) (oi := { dst := some 37, op := Go.Op.call { callee := Go.Callee.value (Go.Operand.func 13), args := #[Go.Operand.tmp 30, Go.Operand.tmp 35, Go.Operand.tmp 36], argTypes := #[3, 34, 34] }, type := 4, pos := "version.go:51", after := #[{ on := 8, ground := Go.Ground.data }, { on := 13, ground := Go.Ground.data }, { on := 14, ground := Go.Ground.data }, { on := 7, ground := Go.Ground.chain }, { on := 7, ground := Go.Ground.guard }], guard := some (7, true) }) (v := undef) rfl (by kernel_rfl) (by kernel_rfl) (by kernel_rfl) (fun _ _ _ h => h) (Or.inr ⟨by rfl, rfl⟩) HS ?rb15
              try simp only [Act.put, List.setIfInBounds_toArray, List.set_cons_zero, List.set_cons_succ]
              refine wpAnyH_take (S := (fun wx => FBox wx n1 y)) (i := 16) (oi := { dst := some 38, op := Go.Op.unOp Go.UnOp.not 4 (Go.Operand.tmp 37), type := 4, pos := "version.go:51", after := #[{ on := 15, ground := Go.Ground.data }, { on := 7, ground := Go.Ground.guard }], guard := some (7, true) }) (v := undef) rfl (by kernel_rfl) (by kernel_rfl) (by kernel_rfl) (fun _ _ _ h => h) (Or.inr ⟨by rfl, rfl⟩) HS ?rb16
              try simp only [Act.put, List.setIfInBounds_toArray, List.set_cons_zero, List.set_cons_succ]
              refine wpAnyH_take (S := (fun wx => FBox wx n1 y)) (i := 17) (oi := { dst := some 39, op := Go.Op.pick (Go.Operand.tmp 29) (Go.Operand.tmp 38) (Go.Operand.const (Go.Value.bool false)), type := 4, pos := "version.go:51", after := #[{ on := 7, ground := Go.Ground.data }, { on := 16, ground := Go.Ground.data }, { on := 4, ground := Go.Ground.guard }], guard := some (4, false) }) (v := .bool false) rfl (by kernel_rfl) (by kernel_rfl) (by kernel_rfl) (fun _ _ _ h => h) (Or.inl ⟨by rfl, ?yb17⟩) HS ?rb17
              case yb17 => (intro w hSw; obtain ⟨s0, s1, s2, s3, s4⟩ := hSw; go_simp; first | done | with_reducible rfl | exact hwj | (intro hh; omega) | skip)
              try simp only [Act.put, List.setIfInBounds_toArray, List.set_cons_zero, List.set_cons_succ]
              refine wpAnyH_take (S := (fun wx => FBox wx n1 y)) (i := 18) (oi := { dst := some 40, op := Go.Op.pick (Go.Operand.tmp 26) (Go.Operand.const (Go.Value.bool true)) (Go.Operand.tmp 39), type := 4, pos := "version.go:51", after := #[{ on := 4, ground := Go.Ground.data }, { on := 17, ground := Go.Ground.data }], guard := none }) (v := .bool false) rfl (by kernel_rfl) (by kernel_rfl) (by kernel_rfl) (fun _ _ _ h => h) (Or.inl ⟨by rfl, ?yb18⟩) HS ?rb18
              case yb18 => (intro w hSw; obtain ⟨s0, s1, s2, s3, s4⟩ := hSw; go_simp; first | done | with_reducible rfl | exact hwj | (intro hh; omega) | skip)
              try simp only [Act.put, List.setIfInBounds_toArray, List.set_cons_zero, List.set_cons_succ]
              refine wpAnyH_done (by kernel_rfl) ?_ _
              refine NoPanic.normal ?_
              obtain ⟨W3, hrun, R3⟩ := rt_put (rt_on R1.out (undrew hb2)) hlj hlp.out hok.out (by rw [hy]; exact hx.out.2.2.1)
              rw [hy] at hrun
              obtain ⟨z0, z1, z2, z3, z4⟩ := fbox_on X1 hb2
              replace R3 := Lib.hid R3
              clear z1 z2 z3 z4
              go_wp2
              go_roundw
              case rel => exact ⟨1, by omega, by go_num, R3.out⟩
              case measure => simp [intOf]; omega
            · have hP := (hca j (by omega)).on (by rw [block_add]; exact hab) R1.out.below
              have HSt := stands_any k (L k)[j] y
              unfold fval at HSt
              have hst : ∀ b, standsB k (L k)[j] y = b → (b = true → okF k (L k) (j + 1)) ∧ (b = false → ¬ right L) := fun b hb =>
                ⟨fun e => okF_of hlj (by rw [hy]; exact hc) (fun _ => by rw [hy]; exact hb.trans e), fun e => right_not hlt fun h => by
                  have := (h hlj).2 (by omega)
                  rw [hy] at this
                  have h2 : standsB k (L k)[j] y = true := this
                  rw [h2] at hb
                  rw [e] at hb
                  cases hb⟩
              clear hc
              replace hlp := Lib.hid hlp
              generalize (L k)[j] = p at *
              have hjn : j + 1 ≤ 100000 := by omega
              have hwj : IntKind.i64.wrap (j : Int) = j := IntWalk.i64_in _ (by omega)
              cases hs : standsB k p y
              · rw [hs] at HSt
                have hnr := Lib.hid ((hst false hs).2 rfl)
                replace HSt := Lib.hid HSt
                replace hP := Lib.hid hP
                clear hst hs
                refine wp_region_noPanic ?_
                refine wp_region_held_drew (S := (fun wx => FBox wx n1 y ∧ FCells wx (a.add (j * 5)) p)) (by kernel_rfl) (⟨X1.out, hP.out⟩) (fun HS => ?_)
                refine wpAnyH_take (S := (fun wx => FBox wx n1 y ∧ FCells wx (a.add (j * 5)) p)) (i := 0) (oi := { dst := some 22, op := Go.Op.move (Go.Operand.tmp 4), type := 3, pos := "version.go:51", after := #[], guard := none }) (v := ?vc0) rfl (by kernel_rfl) (by kernel_rfl) (by kernel_rfl) (fun _ _ _ h => h) (Or.inl ⟨by rfl, ?yc0⟩) HS ?rc0
                case yc0 => (intro w hSw; obtain ⟨⟨s0, s1, s2, s3, s4⟩, q0, q1, q2, q3, q4⟩ := hSw; go_simp; first | done | with_reducible rfl | exact hwj | (intro hh; omega) | skip)
                try simp only [Act.put, List.setIfInBounds_toArray, List.set_cons_zero, List.set_cons_succ]
                refine wpAnyH_take (S := (fun wx => FBox wx n1 y ∧ FCells wx (a.add (j * 5)) p)) (i := 1) (oi := { dst := some 23, op := Go.Op.load 34 (Go.Operand.tmp 7), type := 34, pos := "version.go:51", after := #[], guard := none }) (v := ?vc1) rfl (by kernel_rfl) (by kernel_rfl) (by kernel_rfl) (fun _ _ _ h => h) (Or.inl ⟨by rfl, ?yc1⟩) HS ?rc1
                case yc1 => (intro w hSw; obtain ⟨⟨s0, s1, s2, s3, s4⟩, q0, q1, q2, q3, q4⟩ := hSw; go_simp; first | done | with_reducible rfl | exact hwj | (intro hh; omega) | skip)
                try simp only [Act.put, List.setIfInBounds_toArray, List.set_cons_zero, List.set_cons_succ]
                refine wpAnyH_ready (rs := [2]) (by kernel_rfl) (by simp) ?_
                refine AllReadyH.cons (o := { dst := some 24, op := Go.Op.call { callee := Go.Callee.value (Go.Operand.func 12), args := #[Go.Operand.tmp 22, Go.Operand.tmp 23], argTypes := #[3, 34] }, type := 4, pos := "version.go:51", after := #[{ on := 0, ground := Go.Ground.data }, { on := 1, ground := Go.Ground.data }], guard := none }) rfl (fun K hK => ?_) AllReadyH.nil
                go_simp
                refine (HM.out _).mono ?_; rintro e w2 ⟨rfl, hb2⟩
                refine hK.out _ _ (⟨fbox_on X1 hb2, hP.out.on (fcells_lt hP.out) (undrew hb2)⟩) (fun HS => ?_)
                try simp only [Act.put, List.setIfInBounds_toArray, List.set_cons_zero, List.set_cons_succ]
                refine wpAnyH_take (S := (fun wx => FBox wx n1 y ∧ FCells wx (a.add (j * 5)) p)) (i := 3) (oi := { dst := some 25, op := Go.Op.unOp Go.UnOp.not 4 (Go.Operand.tmp 24), type := 4, pos := "version.go:51", after := #[{ on := 2, ground := Go.Ground.data }], guard := none }) (v := .bool false) rfl (by kernel_rfl) (by kernel_rfl) (by kernel_rfl) (fun _ _ _ h => h) (Or.inl ⟨by rfl, ?yc3⟩) HS ?rc3
                case yc3 => (intro w hSw; obtain ⟨⟨s0, s1, s2, s3, s4⟩, q0, q1, q2, q3, q4⟩ := hSw; go_simp; first | done | with_reducible rfl | exact hwj | (intro hh; omega) | skip)
                try simp only [Act.put, List.setIfInBounds_toArray, List.set_cons_zero, List.set_cons_succ]
                refine wpAnyH_take (S := (fun wx => FBox wx n1 y ∧ FCells wx (a.add (j * 5)) p)) (i := 4) (oi := { dst := some 26, op := Go.Op.move (Go.Operand.tmp 25), type := 4, pos := "version.go:51", after := #[{ on := 3, ground := Go.Ground.data }, { on := 2, ground := Go.Ground.chain }], guard := none }) (v := .bool false) rfl (by kernel_rfl) (by kernel_rfl) (by kernel_rfl) (fun _ _ _ h => h) (Or.inl ⟨by rfl, ?yc4⟩) HS ?rc4
                case yc4 => (intro w hSw; obtain ⟨⟨s0, s1, s2, s3, s4⟩, q0, q1, q2, q3, q4⟩ := hSw; go_simp; first | done | with_reducible rfl | exact hwj | (intro hh; omega) | skip)
                try simp only [Act.put, List.setIfInBounds_toArray, List.set_cons_zero, List.set_cons_succ]
                refine wpAnyH_take (S := (fun wx => FBox wx n1 y ∧ FCells wx (a.add (j * 5)) p)) (i := 5) (oi := { dst := some 27, op := Go.Op.move (Go.Operand.tmp 6), type := 3, pos := "version.go:51", after := #[{ on := 4, ground := Go.Ground.guard }], guard := some (4, false) }) (v := ?vc5) rfl (by kernel_rfl) (by kernel_rfl) (by kernel_rfl) (fun _ _ _ h => h) (Or.inl ⟨by rfl, ?yc5⟩) HS ?rc5
                case yc5 => (intro w hSw; obtain ⟨⟨s0, s1, s2, s3, s4⟩, q0, q1, q2, q3, q4⟩ := hSw; go_simp; first | done | with_reducible rfl | exact hwj | (intro hh; omega) | skip)
                try simp only [Act.put, List.setIfInBounds_toArray, List.set_cons_zero, List.set_cons_succ]
                refine wpAnyH_take (S := (fun wx => FBox wx n1 y ∧ FCells wx (a.add (j * 5)) p)) (i := 6) (oi := { dst := some 28, op := Go.Op.binOp Go.BinOp.gtr 3 (Go.Operand.tmp 27) (Go.Operand.const (Go.Value.int Go.IntKind.i64 0)) 3, type := 4, pos := "version.go:51", after := #[{ on := 5, ground := Go.Ground.data }, { on := 4, ground := Go.Ground.guard }], guard := some (4, false) }) (v := .bool true) rfl (by kernel_rfl) (by kernel_rfl) (by kernel_rfl) (fun _ _ _ h => h) (Or.inl ⟨by rfl, ?yc6⟩) HS ?rc6
                case yc6 => (intro w hSw; obtain ⟨⟨s0, s1, s2, s3, s4⟩, q0, q1, q2, q3, q4⟩ := hSw; go_simp; first | done | with_reducible rfl | exact hwj | (intro hh; omega) | skip)
                try simp only [Act.put, List.setIfInBounds_toArray, List.set_cons_zero, List.set_cons_succ]
                refine wpAnyH_take (S := (fun wx => FBox wx n1 y ∧ FCells wx (a.add (j * 5)) p)) (i := 7) (oi := { dst := some 29, op := Go.Op.move (Go.Operand.tmp 28), type := 4, pos := "version.go:51", after := #[{ on := 6, ground := Go.Ground.data }, { on := 4, ground := Go.Ground.chain }, { on := 4, ground := Go.Ground.guard }], guard := some (4, false) }) (v := .bool true) rfl (by kernel_rfl) (by kernel_rfl) (by kernel_rfl) (fun _ _ _ h => h) (Or.inl ⟨by rfl, ?yc7⟩) HS ?rc7
                case yc7 => (intro w hSw; obtain ⟨⟨s0, s1, s2, s3, s4⟩, q0, q1, q2, q3, q4⟩ := hSw; go_simp; first | done | with_reducible rfl | exact hwj | (intro hh; omega) | skip)
                try simp only [Act.put, List.setIfInBounds_toArray, List.set_cons_zero, List.set_cons_succ]
                refine wpAnyH_take (S := (fun wx => FBox wx n1 y ∧ FCells wx (a.add (j * 5)) p)) (i := 8) (oi := { dst := some 30, op := Go.Op.move (Go.Operand.tmp 4), type := 3, pos := "version.go:51", after := #[{ on := 7, ground := Go.Ground.guard }], guard := some (7, true) }) (v := ?vc8) rfl (by kernel_rfl) (by kernel_rfl) (by kernel_rfl) (fun _ _ _ h => h) (Or.inl ⟨by rfl, ?yc8⟩) HS ?rc8
                case yc8 => (intro w hSw; obtain ⟨⟨s0, s1, s2, s3, s4⟩, q0, q1, q2, q3, q4⟩ := hSw; go_simp; first | done | with_reducible rfl | exact hwj | (intro hh; omega) | skip)
                try simp only [Act.put, List.setIfInBounds_toArray, List.set_cons_zero, List.set_cons_succ]
                refine wpAnyH_take (S := (fun wx => FBox wx n1 y ∧ FCells wx (a.add (j * 5)) p)) (i := 9) (oi := { dst := some 31, op := Go.Op.move (Go.Operand.tmp 5), type := 22, pos := "version.go:51", after := #[{ on := 7, ground := Go.Ground.guard }], guard := some (7, true) }) (v := ?vc9) rfl (by kernel_rfl) (by kernel_rfl) (by kernel_rfl) (fun _ _ _ h => h) (Or.inl ⟨by rfl, ?yc9⟩) HS ?rc9
                case yc9 => (intro w hSw; obtain ⟨⟨s0, s1, s2, s3, s4⟩, q0, q1, q2, q3, q4⟩ := hSw; go_simp; first | done | with_reducible rfl | exact hwj | (intro hh; omega) | skip)
                try simp only [Act.put, List.setIfInBounds_toArray, List.set_cons_zero, List.set_cons_succ]
                refine wpAnyH_take (S := (fun wx => FBox wx n1 y ∧ FCells wx (a.add (j * 5)) p)) (i := 10) (oi := { dst := some 32, op := Go.Op.move (Go.Operand.tmp 6), type := 3, pos := "version.go:51", after := #[{ on := 7, ground := Go.Ground.guard }], guard := some (7, true) }) (v := ?vc10) rfl (by kernel_rfl) (by kernel_rfl) (by kernel_rfl) (fun _ _ _ h => h) (Or.inl ⟨by rfl, ?yc10⟩) HS ?rc10
                case yc10 => (intro w hSw; obtain ⟨⟨s0, s1, s2, s3, s4⟩, q0, q1, q2, q3, q4⟩ := hSw; go_simp; first | done | with_reducible rfl | exact hwj | (intro hh; omega) | skip)
                try simp only [Act.put, List.setIfInBounds_toArray, List.set_cons_zero, List.set_cons_succ]
                refine wpAnyH_take (S := (fun wx => FBox wx n1 y ∧ FCells wx (a.add (j * 5)) p)) (i := 11) (oi := { dst := some 33, op := Go.Op.binOp Go.BinOp.sub 3 (Go.Operand.tmp 32) (Go.Operand.const (Go.Value.int Go.IntKind.i64 1)) 3, type := 3, pos := "version.go:51", after := #[{ on := 10, ground := Go.Ground.data }, { on := 7, ground := Go.Ground.guard }], guard := some (7, true) }) (v := .int .i64 (j : Int)) rfl (by kernel_rfl) (by kernel_rfl) (by kernel_rfl) (fun _ _ _ h => h) (Or.inl ⟨by rfl, ?yc11⟩) HS ?rc11
                case yc11 => (intro w hSw; obtain ⟨⟨s0, s1, s2, s3, s4⟩, q0, q1, q2, q3, q4⟩ := hSw; go_simp; first | done | with_reducible rfl | exact hwj | (intro hh; omega) | skip)
                try simp only [Act.put, List.setIfInBounds_toArray, List.set_cons_zero, List.set_cons_succ]
                refine wpAnyH_take (S := (fun wx => FBox wx n1 y ∧ FCells wx (a.add (j * 5)) p)) (i := 12) (oi := { dst := some 34, op := Go.Op.indexAddr 22 (Go.Operand.tmp 31) (Go.Operand.tmp 33), type := 0, pos := "version.go:51", after := #[{ on := 9, ground := Go.Ground.data }, { on := 11, ground := Go.Ground.data }, { on := 7, ground := Go.Ground.guard }], guard := some (7, true) }) (v := .pointer (some (a.add (j * 5)))) rfl (by kernel_rfl) (by kernel_rfl) (by kernel_rfl) (fun _ _ _ h => h) (Or.inl ⟨by rfl, ?yc12⟩) HS ?rc12
                case yc12 => (intro w hSw; obtain ⟨⟨s0, s1, s2, s3, s4⟩, q0, q1, q2, q3, q4⟩ := hSw; go_simp; first | done | with_reducible rfl | exact hwj | (intro hh; omega) | skip)
                try simp only [Act.put, List.setIfInBounds_toArray, List.set_cons_zero, List.set_cons_succ]
                refine wpAnyH_take (S := (fun wx => FBox wx n1 y ∧ FCells wx (a.add (j * 5)) p)) (i := 13) (oi := { dst := some 35, op := Go.Op.load 34 (Go.Operand.tmp 34), type := 34, pos := "version.go:51", after := #[{ on := 12, ground := Go.Ground.data }, { on := 7, ground := Go.Ground.guard }], guard := some (7, true) }) (v := ?vc13) rfl (by kernel_rfl) (by kernel_rfl) (by kernel_rfl) (fun _ _ _ h => h) (Or.inl ⟨by rfl, ?yc13⟩) HS ?rc13
                case yc13 => (intro w hSw; obtain ⟨⟨s0, s1, s2, s3, s4⟩, q0, q1, q2, q3, q4⟩ := hSw; go_simp; first | done | with_reducible rfl | exact hwj | (intro hh; omega) | skip)
                try simp only [Act.put, List.setIfInBounds_toArray, List.set_cons_zero, List.set_cons_succ]
                refine wpAnyH_take (S := (fun wx => FBox wx n1 y ∧ FCells wx (a.add (j * 5)) p)) (i := 14) (oi := { dst := some 36, op := Go.Op.load 34 (Go.Operand.tmp 7), type := 34, pos := "version.go:51", after := #[{ on := 7, ground := Go.Ground.guard }], guard := some (7, true) }) (v := ?vc14) rfl (by kernel_rfl) (by kernel_rfl) (by kernel_rfl) (fun _ _ _ h => h) (Or.inl ⟨by rfl, ?yc14⟩) HS ?rc14
                case yc14 => (intro w hSw; obtain ⟨⟨s0, s1, s2, s3, s4⟩, q0, q1, q2, q3, q4⟩ := hSw; go_simp; first | done | with_reducible rfl | exact hwj | (intro hh; omega) | skip)
                try simp only [Act.put, List.setIfInBounds_toArray, List.set_cons_zero, List.set_cons_succ]
                refine wpAnyH_ready (rs := [15]) (by kernel_rfl) (by simp) ?_
                refine AllReadyH.cons (o := { dst := some 37, op := Go.Op.call { callee := Go.Callee.value (Go.Operand.func 13), args := #[Go.Operand.tmp 30, Go.Operand.tmp 35, Go.Operand.tmp 36], argTypes := #[3, 34, 34] }, type := 4, pos := "version.go:51", after := #[{ on := 8, ground := Go.Ground.data }, { on := 13, ground := Go.Ground.data }, { on := 14, ground := Go.Ground.data }, { on := 7, ground := Go.Ground.chain }, { on := 7, ground := Go.Ground.guard }], guard := some (7, true) }) rfl (fun K hK => ?_) AllReadyH.nil
                go_simp
                refine (HSt.out _).mono ?_; rintro e w3 ⟨rfl, hb3⟩
                refine hK.out _ _ (⟨fbox_next (fbox_on X1 hb2) hb3, (hP.out.on (fcells_lt hP.out) (undrew hb2)).on (fcells_lt (hP.out.on (fcells_lt hP.out) (undrew hb2))) hb3⟩) (fun HS => ?_)
                try simp only [Act.put, List.setIfInBounds_toArray, List.set_cons_zero, List.set_cons_succ]
                refine wpAnyH_take (S := (fun wx => FBox wx n1 y ∧ FCells wx (a.add (j * 5)) p)) (i := 16) (oi := { dst := some 38, op := Go.Op.unOp Go.UnOp.not 4 (Go.Operand.tmp 37), type := 4, pos := "version.go:51", after := #[{ on := 15, ground := Go.Ground.data }, { on := 7, ground := Go.Ground.guard }], guard := some (7, true) }) (v := .bool true) rfl (by kernel_rfl) (by kernel_rfl) (by kernel_rfl) (fun _ _ _ h => h) (Or.inl ⟨by rfl, ?yc16⟩) HS ?rc16
                case yc16 => (intro w hSw; obtain ⟨⟨s0, s1, s2, s3, s4⟩, q0, q1, q2, q3, q4⟩ := hSw; go_simp; first | done | with_reducible rfl | exact hwj | (intro hh; omega) | skip)
                try simp only [Act.put, List.setIfInBounds_toArray, List.set_cons_zero, List.set_cons_succ]
                refine wpAnyH_take (S := (fun wx => FBox wx n1 y ∧ FCells wx (a.add (j * 5)) p)) (i := 17) (oi := { dst := some 39, op := Go.Op.pick (Go.Operand.tmp 29) (Go.Operand.tmp 38) (Go.Operand.const (Go.Value.bool false)), type := 4, pos := "version.go:51", after := #[{ on := 7, ground := Go.Ground.data }, { on := 16, ground := Go.Ground.data }, { on := 4, ground := Go.Ground.guard }], guard := some (4, false) }) (v := .bool true) rfl (by kernel_rfl) (by kernel_rfl) (by kernel_rfl) (fun _ _ _ h => h) (Or.inl ⟨by rfl, ?yc17⟩) HS ?rc17
                case yc17 => (intro w hSw; obtain ⟨⟨s0, s1, s2, s3, s4⟩, q0, q1, q2, q3, q4⟩ := hSw; go_simp; first | done | with_reducible rfl | exact hwj | (intro hh; omega) | skip)
                try simp only [Act.put, List.setIfInBounds_toArray, List.set_cons_zero, List.set_cons_succ]
                refine wpAnyH_take (S := (fun wx => FBox wx n1 y ∧ FCells wx (a.add (j * 5)) p)) (i := 18) (oi := { dst := some 40, op := Go.Op.pick (Go.Operand.tmp 26) (Go.Operand.const (Go.Value.bool true)) (Go.Operand.tmp 39), type := 4, pos := "version.go:51", after := #[{ on := 4, ground := Go.Ground.data }, { on := 17, ground := Go.Ground.data }], guard := none }) (v := .bool true) rfl (by kernel_rfl) (by kernel_rfl) (by kernel_rfl) (fun _ _ _ h => h) (Or.inl ⟨by rfl, ?yc18⟩) HS ?rc18
                case yc18 => (intro w hSw; obtain ⟨⟨s0, s1, s2, s3, s4⟩, q0, q1, q2, q3, q4⟩ := hSw; go_simp; first | done | with_reducible rfl | exact hwj | (intro hh; omega) | skip)
                try simp only [Act.put, List.setIfInBounds_toArray, List.set_cons_zero, List.set_cons_succ]
                refine wpAnyH_done (by kernel_rfl) ?_ _
                refine NoPanic.normal ?_
                go_wp2
                go_ret
                exact ⟨⟨false, rfl, by simp [hnr.out]⟩, (rt_on (rt_on R1.out (undrew hb2)) hb3).below⟩
              · rw [hs] at HSt
                have hok := Lib.hid ((hst true hs).1 rfl)
                replace HSt := Lib.hid HSt
                replace hP := Lib.hid hP
                clear hst hs
                refine wp_region_noPanic ?_
                refine wp_region_held_drew (S := (fun wx => FBox wx n1 y ∧ FCells wx (a.add (j * 5)) p)) (by kernel_rfl) (⟨X1.out, hP.out⟩) (fun HS => ?_)
                refine wpAnyH_take (S := (fun wx => FBox wx n1 y ∧ FCells wx (a.add (j * 5)) p)) (i := 0) (oi := { dst := some 22, op := Go.Op.move (Go.Operand.tmp 4), type := 3, pos := "version.go:51", after := #[], guard := none }) (v := ?vd0) rfl (by kernel_rfl) (by kernel_rfl) (by kernel_rfl) (fun _ _ _ h => h) (Or.inl ⟨by rfl, ?yd0⟩) HS ?rd0
                case yd0 => (intro w hSw; obtain ⟨⟨s0, s1, s2, s3, s4⟩, q0, q1, q2, q3, q4⟩ := hSw; go_simp; first | done | with_reducible rfl | exact hwj | (intro hh; omega) | skip)
                try simp only [Act.put, List.setIfInBounds_toArray, List.set_cons_zero, List.set_cons_succ]
                refine wpAnyH_take (S := (fun wx => FBox wx n1 y ∧ FCells wx (a.add (j * 5)) p)) (i := 1) (oi := { dst := some 23, op := Go.Op.load 34 (Go.Operand.tmp 7), type := 34, pos := "version.go:51", after := #[], guard := none }) (v := ?vd1) rfl (by kernel_rfl) (by kernel_rfl) (by kernel_rfl) (fun _ _ _ h => h) (Or.inl ⟨by rfl, ?yd1⟩) HS ?rd1
                case yd1 => (intro w hSw; obtain ⟨⟨s0, s1, s2, s3, s4⟩, q0, q1, q2, q3, q4⟩ := hSw; go_simp; first | done | with_reducible rfl | exact hwj | (intro hh; omega) | skip)
                try simp only [Act.put, List.setIfInBounds_toArray, List.set_cons_zero, List.set_cons_succ]
                refine wpAnyH_ready (rs := [2]) (by kernel_rfl) (by simp) ?_
                refine AllReadyH.cons (o := { dst := some 24, op := Go.Op.call { callee := Go.Callee.value (Go.Operand.func 12), args := #[Go.Operand.tmp 22, Go.Operand.tmp 23], argTypes := #[3, 34] }, type := 4, pos := "version.go:51", after := #[{ on := 0, ground := Go.Ground.data }, { on := 1, ground := Go.Ground.data }], guard := none }) rfl (fun K hK => ?_) AllReadyH.nil
                go_simp
                refine (HM.out _).mono ?_; rintro e w2 ⟨rfl, hb2⟩
                refine hK.out _ _ (⟨fbox_on X1 hb2, hP.out.on (fcells_lt hP.out) (undrew hb2)⟩) (fun HS => ?_)
                try simp only [Act.put, List.setIfInBounds_toArray, List.set_cons_zero, List.set_cons_succ]
                refine wpAnyH_take (S := (fun wx => FBox wx n1 y ∧ FCells wx (a.add (j * 5)) p)) (i := 3) (oi := { dst := some 25, op := Go.Op.unOp Go.UnOp.not 4 (Go.Operand.tmp 24), type := 4, pos := "version.go:51", after := #[{ on := 2, ground := Go.Ground.data }], guard := none }) (v := .bool false) rfl (by kernel_rfl) (by kernel_rfl) (by kernel_rfl) (fun _ _ _ h => h) (Or.inl ⟨by rfl, ?yd3⟩) HS ?rd3
                case yd3 => (intro w hSw; obtain ⟨⟨s0, s1, s2, s3, s4⟩, q0, q1, q2, q3, q4⟩ := hSw; go_simp; first | done | with_reducible rfl | exact hwj | (intro hh; omega) | skip)
                try simp only [Act.put, List.setIfInBounds_toArray, List.set_cons_zero, List.set_cons_succ]
                refine wpAnyH_take (S := (fun wx => FBox wx n1 y ∧ FCells wx (a.add (j * 5)) p)) (i := 4) (oi := { dst := some 26, op := Go.Op.move (Go.Operand.tmp 25), type := 4, pos := "version.go:51", after := #[{ on := 3, ground := Go.Ground.data }, { on := 2, ground := Go.Ground.chain }], guard := none }) (v := .bool false) rfl (by kernel_rfl) (by kernel_rfl) (by kernel_rfl) (fun _ _ _ h => h) (Or.inl ⟨by rfl, ?yd4⟩) HS ?rd4
                case yd4 => (intro w hSw; obtain ⟨⟨s0, s1, s2, s3, s4⟩, q0, q1, q2, q3, q4⟩ := hSw; go_simp; first | done | with_reducible rfl | exact hwj | (intro hh; omega) | skip)
                try simp only [Act.put, List.setIfInBounds_toArray, List.set_cons_zero, List.set_cons_succ]
                refine wpAnyH_take (S := (fun wx => FBox wx n1 y ∧ FCells wx (a.add (j * 5)) p)) (i := 5) (oi := { dst := some 27, op := Go.Op.move (Go.Operand.tmp 6), type := 3, pos := "version.go:51", after := #[{ on := 4, ground := Go.Ground.guard }], guard := some (4, false) }) (v := ?vd5) rfl (by kernel_rfl) (by kernel_rfl) (by kernel_rfl) (fun _ _ _ h => h) (Or.inl ⟨by rfl, ?yd5⟩) HS ?rd5
                case yd5 => (intro w hSw; obtain ⟨⟨s0, s1, s2, s3, s4⟩, q0, q1, q2, q3, q4⟩ := hSw; go_simp; first | done | with_reducible rfl | exact hwj | (intro hh; omega) | skip)
                try simp only [Act.put, List.setIfInBounds_toArray, List.set_cons_zero, List.set_cons_succ]
                refine wpAnyH_take (S := (fun wx => FBox wx n1 y ∧ FCells wx (a.add (j * 5)) p)) (i := 6) (oi := { dst := some 28, op := Go.Op.binOp Go.BinOp.gtr 3 (Go.Operand.tmp 27) (Go.Operand.const (Go.Value.int Go.IntKind.i64 0)) 3, type := 4, pos := "version.go:51", after := #[{ on := 5, ground := Go.Ground.data }, { on := 4, ground := Go.Ground.guard }], guard := some (4, false) }) (v := .bool true) rfl (by kernel_rfl) (by kernel_rfl) (by kernel_rfl) (fun _ _ _ h => h) (Or.inl ⟨by rfl, ?yd6⟩) HS ?rd6
                case yd6 => (intro w hSw; obtain ⟨⟨s0, s1, s2, s3, s4⟩, q0, q1, q2, q3, q4⟩ := hSw; go_simp; first | done | with_reducible rfl | exact hwj | (intro hh; omega) | skip)
                try simp only [Act.put, List.setIfInBounds_toArray, List.set_cons_zero, List.set_cons_succ]
                refine wpAnyH_take (S := (fun wx => FBox wx n1 y ∧ FCells wx (a.add (j * 5)) p)) (i := 7) (oi := { dst := some 29, op := Go.Op.move (Go.Operand.tmp 28), type := 4, pos := "version.go:51", after := #[{ on := 6, ground := Go.Ground.data }, { on := 4, ground := Go.Ground.chain }, { on := 4, ground := Go.Ground.guard }], guard := some (4, false) }) (v := .bool true) rfl (by kernel_rfl) (by kernel_rfl) (by kernel_rfl) (fun _ _ _ h => h) (Or.inl ⟨by rfl, ?yd7⟩) HS ?rd7
                case yd7 => (intro w hSw; obtain ⟨⟨s0, s1, s2, s3, s4⟩, q0, q1, q2, q3, q4⟩ := hSw; go_simp; first | done | with_reducible rfl | exact hwj | (intro hh; omega) | skip)
                try simp only [Act.put, List.setIfInBounds_toArray, List.set_cons_zero, List.set_cons_succ]
                refine wpAnyH_take (S := (fun wx => FBox wx n1 y ∧ FCells wx (a.add (j * 5)) p)) (i := 8) (oi := { dst := some 30, op := Go.Op.move (Go.Operand.tmp 4), type := 3, pos := "version.go:51", after := #[{ on := 7, ground := Go.Ground.guard }], guard := some (7, true) }) (v := ?vd8) rfl (by kernel_rfl) (by kernel_rfl) (by kernel_rfl) (fun _ _ _ h => h) (Or.inl ⟨by rfl, ?yd8⟩) HS ?rd8
                case yd8 => (intro w hSw; obtain ⟨⟨s0, s1, s2, s3, s4⟩, q0, q1, q2, q3, q4⟩ := hSw; go_simp; first | done | with_reducible rfl | exact hwj | (intro hh; omega) | skip)
                try simp only [Act.put, List.setIfInBounds_toArray, List.set_cons_zero, List.set_cons_succ]
                refine wpAnyH_take (S := (fun wx => FBox wx n1 y ∧ FCells wx (a.add (j * 5)) p)) (i := 9) (oi := { dst := some 31, op := Go.Op.move (Go.Operand.tmp 5), type := 22, pos := "version.go:51", after := #[{ on := 7, ground := Go.Ground.guard }], guard := some (7, true) }) (v := ?vd9) rfl (by kernel_rfl) (by kernel_rfl) (by kernel_rfl) (fun _ _ _ h => h) (Or.inl ⟨by rfl, ?yd9⟩) HS ?rd9
                case yd9 => (intro w hSw; obtain ⟨⟨s0, s1, s2, s3, s4⟩, q0, q1, q2, q3, q4⟩ := hSw; go_simp; first | done | with_reducible rfl | exact hwj | (intro hh; omega) | skip)
                try simp only [Act.put, List.setIfInBounds_toArray, List.set_cons_zero, List.set_cons_succ]
                refine wpAnyH_take (S := (fun wx => FBox wx n1 y ∧ FCells wx (a.add (j * 5)) p)) (i := 10) (oi := { dst := some 32, op := Go.Op.move (Go.Operand.tmp 6), type := 3, pos := "version.go:51", after := #[{ on := 7, ground := Go.Ground.guard }], guard := some (7, true) }) (v := ?vd10) rfl (by kernel_rfl) (by kernel_rfl) (by kernel_rfl) (fun _ _ _ h => h) (Or.inl ⟨by rfl, ?yd10⟩) HS ?rd10
                case yd10 => (intro w hSw; obtain ⟨⟨s0, s1, s2, s3, s4⟩, q0, q1, q2, q3, q4⟩ := hSw; go_simp; first | done | with_reducible rfl | exact hwj | (intro hh; omega) | skip)
                try simp only [Act.put, List.setIfInBounds_toArray, List.set_cons_zero, List.set_cons_succ]
                refine wpAnyH_take (S := (fun wx => FBox wx n1 y ∧ FCells wx (a.add (j * 5)) p)) (i := 11) (oi := { dst := some 33, op := Go.Op.binOp Go.BinOp.sub 3 (Go.Operand.tmp 32) (Go.Operand.const (Go.Value.int Go.IntKind.i64 1)) 3, type := 3, pos := "version.go:51", after := #[{ on := 10, ground := Go.Ground.data }, { on := 7, ground := Go.Ground.guard }], guard := some (7, true) }) (v := .int .i64 (j : Int)) rfl (by kernel_rfl) (by kernel_rfl) (by kernel_rfl) (fun _ _ _ h => h) (Or.inl ⟨by rfl, ?yd11⟩) HS ?rd11
                case yd11 => (intro w hSw; obtain ⟨⟨s0, s1, s2, s3, s4⟩, q0, q1, q2, q3, q4⟩ := hSw; go_simp; first | done | with_reducible rfl | exact hwj | (intro hh; omega) | skip)
                try simp only [Act.put, List.setIfInBounds_toArray, List.set_cons_zero, List.set_cons_succ]
                refine wpAnyH_take (S := (fun wx => FBox wx n1 y ∧ FCells wx (a.add (j * 5)) p)) (i := 12) (oi := { dst := some 34, op := Go.Op.indexAddr 22 (Go.Operand.tmp 31) (Go.Operand.tmp 33), type := 0, pos := "version.go:51", after := #[{ on := 9, ground := Go.Ground.data }, { on := 11, ground := Go.Ground.data }, { on := 7, ground := Go.Ground.guard }], guard := some (7, true) }) (v := .pointer (some (a.add (j * 5)))) rfl (by kernel_rfl) (by kernel_rfl) (by kernel_rfl) (fun _ _ _ h => h) (Or.inl ⟨by rfl, ?yd12⟩) HS ?rd12
                case yd12 => (intro w hSw; obtain ⟨⟨s0, s1, s2, s3, s4⟩, q0, q1, q2, q3, q4⟩ := hSw; go_simp; first | done | with_reducible rfl | exact hwj | (intro hh; omega) | skip)
                try simp only [Act.put, List.setIfInBounds_toArray, List.set_cons_zero, List.set_cons_succ]
                refine wpAnyH_take (S := (fun wx => FBox wx n1 y ∧ FCells wx (a.add (j * 5)) p)) (i := 13) (oi := { dst := some 35, op := Go.Op.load 34 (Go.Operand.tmp 34), type := 34, pos := "version.go:51", after := #[{ on := 12, ground := Go.Ground.data }, { on := 7, ground := Go.Ground.guard }], guard := some (7, true) }) (v := ?vd13) rfl (by kernel_rfl) (by kernel_rfl) (by kernel_rfl) (fun _ _ _ h => h) (Or.inl ⟨by rfl, ?yd13⟩) HS ?rd13
                case yd13 => (intro w hSw; obtain ⟨⟨s0, s1, s2, s3, s4⟩, q0, q1, q2, q3, q4⟩ := hSw; go_simp; first | done | with_reducible rfl | exact hwj | (intro hh; omega) | skip)
                try simp only [Act.put, List.setIfInBounds_toArray, List.set_cons_zero, List.set_cons_succ]
                refine wpAnyH_take (S := (fun wx => FBox wx n1 y ∧ FCells wx (a.add (j * 5)) p)) (i := 14) (oi := { dst := some 36, op := Go.Op.load 34 (Go.Operand.tmp 7), type := 34, pos := "version.go:51", after := #[{ on := 7, ground := Go.Ground.guard }], guard := some (7, true) }) (v := ?vd14) rfl (by kernel_rfl) (by kernel_rfl) (by kernel_rfl) (fun _ _ _ h => h) (Or.inl ⟨by rfl, ?yd14⟩) HS ?rd14
                case yd14 => (intro w hSw; obtain ⟨⟨s0, s1, s2, s3, s4⟩, q0, q1, q2, q3, q4⟩ := hSw; go_simp; first | done | with_reducible rfl | exact hwj | (intro hh; omega) | skip)
                try simp only [Act.put, List.setIfInBounds_toArray, List.set_cons_zero, List.set_cons_succ]
                refine wpAnyH_ready (rs := [15]) (by kernel_rfl) (by simp) ?_
                refine AllReadyH.cons (o := { dst := some 37, op := Go.Op.call { callee := Go.Callee.value (Go.Operand.func 13), args := #[Go.Operand.tmp 30, Go.Operand.tmp 35, Go.Operand.tmp 36], argTypes := #[3, 34, 34] }, type := 4, pos := "version.go:51", after := #[{ on := 8, ground := Go.Ground.data }, { on := 13, ground := Go.Ground.data }, { on := 14, ground := Go.Ground.data }, { on := 7, ground := Go.Ground.chain }, { on := 7, ground := Go.Ground.guard }], guard := some (7, true) }) rfl (fun K hK => ?_) AllReadyH.nil
                go_simp
                refine (HSt.out _).mono ?_; rintro e w3 ⟨rfl, hb3⟩
                refine hK.out _ _ (⟨fbox_next (fbox_on X1 hb2) hb3, (hP.out.on (fcells_lt hP.out) (undrew hb2)).on (fcells_lt (hP.out.on (fcells_lt hP.out) (undrew hb2))) hb3⟩) (fun HS => ?_)
                try simp only [Act.put, List.setIfInBounds_toArray, List.set_cons_zero, List.set_cons_succ]
                refine wpAnyH_take (S := (fun wx => FBox wx n1 y ∧ FCells wx (a.add (j * 5)) p)) (i := 16) (oi := { dst := some 38, op := Go.Op.unOp Go.UnOp.not 4 (Go.Operand.tmp 37), type := 4, pos := "version.go:51", after := #[{ on := 15, ground := Go.Ground.data }, { on := 7, ground := Go.Ground.guard }], guard := some (7, true) }) (v := .bool false) rfl (by kernel_rfl) (by kernel_rfl) (by kernel_rfl) (fun _ _ _ h => h) (Or.inl ⟨by rfl, ?yd16⟩) HS ?rd16
                case yd16 => (intro w hSw; obtain ⟨⟨s0, s1, s2, s3, s4⟩, q0, q1, q2, q3, q4⟩ := hSw; go_simp; first | done | with_reducible rfl | exact hwj | (intro hh; omega) | skip)
                try simp only [Act.put, List.setIfInBounds_toArray, List.set_cons_zero, List.set_cons_succ]
                refine wpAnyH_take (S := (fun wx => FBox wx n1 y ∧ FCells wx (a.add (j * 5)) p)) (i := 17) (oi := { dst := some 39, op := Go.Op.pick (Go.Operand.tmp 29) (Go.Operand.tmp 38) (Go.Operand.const (Go.Value.bool false)), type := 4, pos := "version.go:51", after := #[{ on := 7, ground := Go.Ground.data }, { on := 16, ground := Go.Ground.data }, { on := 4, ground := Go.Ground.guard }], guard := some (4, false) }) (v := .bool false) rfl (by kernel_rfl) (by kernel_rfl) (by kernel_rfl) (fun _ _ _ h => h) (Or.inl ⟨by rfl, ?yd17⟩) HS ?rd17
                case yd17 => (intro w hSw; obtain ⟨⟨s0, s1, s2, s3, s4⟩, q0, q1, q2, q3, q4⟩ := hSw; go_simp; first | done | with_reducible rfl | exact hwj | (intro hh; omega) | skip)
                try simp only [Act.put, List.setIfInBounds_toArray, List.set_cons_zero, List.set_cons_succ]
                refine wpAnyH_take (S := (fun wx => FBox wx n1 y ∧ FCells wx (a.add (j * 5)) p)) (i := 18) (oi := { dst := some 40, op := Go.Op.pick (Go.Operand.tmp 26) (Go.Operand.const (Go.Value.bool true)) (Go.Operand.tmp 39), type := 4, pos := "version.go:51", after := #[{ on := 4, ground := Go.Ground.data }, { on := 17, ground := Go.Ground.data }], guard := none }) (v := .bool false) rfl (by kernel_rfl) (by kernel_rfl) (by kernel_rfl) (fun _ _ _ h => h) (Or.inl ⟨by rfl, ?yd18⟩) HS ?rd18
                case yd18 => (intro w hSw; obtain ⟨⟨s0, s1, s2, s3, s4⟩, q0, q1, q2, q3, q4⟩ := hSw; go_simp; first | done | with_reducible rfl | exact hwj | (intro hh; omega) | skip)
                try simp only [Act.put, List.setIfInBounds_toArray, List.set_cons_zero, List.set_cons_succ]
                refine wpAnyH_done (by kernel_rfl) ?_ _
                refine NoPanic.normal ?_
                obtain ⟨W3, hrun, R3⟩ := rt_put (rt_on (rt_on R1.out (undrew hb2)) hb3) hlj hlp.out hok.out (by rw [hy]; exact hx.out.2.2.1)
                rw [hy] at hrun
                obtain ⟨z0, z1, z2, z3, z4⟩ := fbox_next (fbox_on X1 hb2) hb3
                replace R3 := Lib.hid R3
                clear z1 z2 z3 z4
                go_wp2
                go_roundw
                case rel => exact ⟨j + 1 + 1, by omega, by go_num, R3.out⟩
                case measure => simp [intOf]; omega
          · rw [decide_eq_false hc] at HM
            replace HM := Lib.hid HM
            have hnr := Lib.hid (right_not hlt (L := L) (j := j) fun h => hc (by have := (h hlj).1; rw [hy] at this; exact this))
            clear hc
            refine wp_region_noPanic ?_
            refine wp_region_held_drew (S := (fun wx => FBox wx n1 y)) (by kernel_rfl) (X1.out) (fun HS => ?_)
            refine wpAnyH_take (S := (fun wx => FBox wx n1 y)) (i := 0) (oi := { dst := some 22, op := Go.Op.move (Go.Operand.tmp 4), type := 3, pos := "version.go:51", after := #[], guard := none }) (v := ?va0) rfl (by kernel_rfl) (by kernel_rfl) (by kernel_rfl) (fun _ _ _ h => h) (Or.inl ⟨by rfl, ?ya0⟩) HS ?ra0
            case ya0 => (intro w hSw; obtain ⟨s0, s1, s2, s3, s4⟩ := hSw; go_simp; first | done | with_reducible rfl | exact hwj | (intro hh; omega) | skip)
            try simp only [Act.put, List.setIfInBounds_toArray, List.set_cons_zero, List.set_cons_succ]
            refine wpAnyH_take (S := (fun wx => FBox wx n1 y)) (i := 1) (oi := { dst := some 23, op := Go.Op.load 34 (Go.Operand.tmp 7), type := 34, pos := "version.go:51", after := #[], guard := none }) (v := ?va1) rfl (by kernel_rfl) (by kernel_rfl) (by kernel_rfl) (fun _ _ _ h => h) (Or.inl ⟨by rfl, ?ya1⟩) HS ?ra1
            case ya1 => (intro w hSw; obtain ⟨s0, s1, s2, s3, s4⟩ := hSw; go_simp; first | done | with_reducible rfl | exact hwj | (intro hh; omega) | skip)
            try simp only [Act.put, List.setIfInBounds_toArray, List.set_cons_zero, List.set_cons_succ]
            refine wpAnyH_ready (rs := [2]) (by kernel_rfl) (by simp) ?_
            refine AllReadyH.cons (o := { dst := some 24, op := Go.Op.call { callee := Go.Callee.value (Go.Operand.func 12), args := #[Go.Operand.tmp 22, Go.Operand.tmp 23], argTypes := #[3, 34] }, type := 4, pos := "version.go:51", after := #[{ on := 0, ground := Go.Ground.data }, { on := 1, ground := Go.Ground.data }], guard := none }) rfl (fun K hK => ?_) AllReadyH.nil
            go_simp
            refine (HM.out _).mono ?_; rintro e w2 ⟨rfl, hb2⟩
            refine hK.out _ _ (fbox_on X1 hb2) (fun HS => ?_)
            try simp only [Act.put, List.setIfInBounds_toArray, List.set_cons_zero, List.set_cons_succ]
            refine wpAnyH_take (S := (fun wx => FBox wx n1 y)) (i := 3) (oi := { dst := some 25, op := Go.Op.unOp Go.UnOp.not 4 (Go.Operand.tmp 24), type := 4, pos := "version.go:51", after := #[{ on := 2, ground := Go.Ground.data }], guard := none }) (v := .bool true) rfl (by kernel_rfl) (by kernel_rfl) (by kernel_rfl) (fun _ _ _ h => h) (Or.inl ⟨by rfl, ?ya3⟩) HS ?ra3
            case ya3 => (intro w hSw; obtain ⟨s0, s1, s2, s3, s4⟩ := hSw; go_simp; first | done | with_reducible rfl | exact hwj | (intro hh; omega) | skip)
            try simp only [Act.put, List.setIfInBounds_toArray, List.set_cons_zero, List.set_cons_succ]
            refine wpAnyH_take (S := (fun wx => FBox wx n1 y)) (i := 4) (oi := { dst := some 26, op := Go.Op.move (Go.Operand.tmp 25), type := 4, pos := "version.go:51", after := #[{ on := 3, ground := Go.Ground.data }, { on := 2, ground := Go.Ground.chain }], guard := none }) (v := .bool true) rfl (by kernel_rfl) (by kernel_rfl) (by kernel_rfl) (fun _ _ _ h => h) (Or.inl ⟨by rfl, ?ya4⟩) HS ?ra4
            case ya4 => (intro w hSw; obtain ⟨s0, s1, s2, s3, s4⟩ := hSw; go_simp; first | done | with_reducible rfl | exact hwj | (intro hh; omega) | skip)
            try simp only [Act.put, List.setIfInBounds_toArray, List.set_cons_zero, List.set_cons_succ]
            refine wpAnyH_take (S := (fun wx => FBox wx n1 y)) (i := 5) (oi := { dst := some 27, op := Go.Op.move (Go.Operand.tmp 6), type := 3, pos := "version.go:51", after := #[{ on := 4, ground := Go.Ground.guard }], guard := some (4, false) }) (v := undef) rfl (by kernel_rfl) (by kernel_rfl) (by kernel_rfl) (fun _ _ _ h => h) (Or.inr ⟨by rfl, rfl⟩) HS ?ra5
            try simp only [Act.put, List.setIfInBounds_toArray, List.set_cons_zero, List.set_cons_succ]
            refine wpAnyH_take (S := (fun wx => FBox wx n1 y)) (i := 6) (oi := { dst := some 28, op := Go.Op.binOp Go.BinOp.gtr 3 (Go.Operand.tmp 27) (Go.Operand.const (Go.Value.int Go.IntKind.i64 0)) 3, type := 4, pos := "version.go:51", after := #[{ on := 5, ground := Go.Ground.data }, { on := 4, ground := Go.Ground.guard }], guard := some (4, false) }) (v := undef) rfl (by kernel_rfl) (by kernel_rfl) (by kernel_rfl) (fun _ _ _ h => h) (Or.inr ⟨by rfl, rfl⟩) HS ?ra6
            try simp only [Act.put, List.setIfInBounds_toArray, List.set_cons_zero, List.set_cons_succ]
            refine wpAnyH_take (S := (fun wx => FBox wx n1 y)) (i := 7) (oi := { dst := some 29, op := Go.Op.move (Go.Operand.tmp 28), type := 4, pos := "version.go:51", after := #[{ on := 6, ground := Go.Ground.data }, { on := 4, ground := Go.Ground.chain }, { on := 4, ground := Go.Ground.guard }], guard := some (4, false) }) (v := undef) rfl (by kernel_rfl) (by kernel_rfl) (by kernel_rfl) (fun _ _ _ h => h) (Or.inr ⟨by rfl, rfl⟩) HS ?ra7
            try simp only [Act.put, List.setIfInBounds_toArray, List.set_cons_zero, List.set_cons_succ]
            refine wpAnyH_take (S := (fun wx => FBox wx n1 y)) (i := 8) (oi := { dst := some 30, op := Go.Op.move (Go.Operand.tmp 4), type := 3, pos := "version.go:51", after := #[{ on := 7, ground := Go.Ground.guard }], guard := some (7, true) }) (v := undef) rfl (by kernel_rfl) (by kernel_rfl) (by kernel_rfl) (fun _ _ _ h => h) (Or.inr ⟨by rfl, rfl⟩) HS ?ra8
            try simp only [Act.put, List.setIfInBounds_toArray, List.set_cons_zero, List.set_cons_succ]
            refine wpAnyH_take (S := (fun wx => FBox wx n1 y)) (i := 9) (oi := { dst := some 31, op := Go.Op.move (Go.Operand.tmp 5), type := 22, pos := "version.go:51", after := #[{ on := 7, ground := Go.Ground.guard }], guard := some (7, true) }) (v := undef) rfl (by kernel_rfl) (by kernel_rfl) (by kernel_rfl) (fun _ _ _ h => h) (Or.inr ⟨by rfl, rfl⟩) HS ?ra9
            try simp only [Act.put, List.setIfInBounds_toArray, List.set_cons_zero, List.set_cons_succ]
            refine wpAnyH_take (S := (fun wx => FBox wx n1 y)) (i := 10) (oi := { dst := some 32, op := Go.Op.move (Go.Operand.tmp 6), type := 3, pos := "version.go:51", after := #[{ on := 7, ground := Go.Ground.guard }], guard := some (7, true) }) (v := undef) rfl (by kernel_rfl) (by kernel_rfl) (by kernel_rfl) (fun _ _ _ h => h) (Or.inr ⟨by rfl, rfl⟩) HS ?ra10
            try simp only [Act.put, List.setIfInBounds_toArray, List.set_cons_zero, List.set_cons_succ]
            refine wpAnyH_take (S := (fun wx => FBox wx n1 y)) (i := 11) (oi := { dst := some 33, op := Go.Op.binOp Go.BinOp.sub 3 (Go.Operand.tmp 32) (Go.Operand.const (Go.Value.int Go.IntKind.i64 1)) 3, type := 3, pos := "version.go:51", after := #[{ on := 10, ground := Go.Ground.data }, { on := 7, ground := Go.Ground.guard }], guard := some (7, true) }) (v := undef) rfl (by kernel_rfl) (by kernel_rfl) (by kernel_rfl) (fun _ _ _ h => h) (Or.inr ⟨by rfl, rfl⟩) HS ?ra11
            try simp only [Act.put, List.setIfInBounds_toArray, List.set_cons_zero, List.set_cons_succ]
            refine wpAnyH_take (S := (fun wx => FBox wx n1 y)) (i := 12) (oi := { dst := some 34, op := Go.Op.indexAddr 22 (Go.Operand.tmp 31) (Go.Operand.tmp 33), type := 0, pos := "version.go:51", after := #[{ on := 9, ground := Go.Ground.data }, { on := 11, ground := Go.Ground.data }, { on := 7, ground := Go.Ground.guard }], guard := some (7, true) }) (v := undef) rfl (by kernel_rfl) (by kernel_rfl) (by kernel_rfl) (fun _ _ _ h => h) (Or.inr ⟨by rfl, rfl⟩) HS ?ra12
            try simp only [Act.put, List.setIfInBounds_toArray, List.set_cons_zero, List.set_cons_succ]
            refine wpAnyH_take (S := (fun wx => FBox wx n1 y)) (i := 13) (oi := { dst := some 35, op := Go.Op.load 34 (Go.Operand.tmp 34), type := 34, pos := "version.go:51", after := #[{ on := 12, ground := Go.Ground.data }, { on := 7, ground := Go.Ground.guard }], guard := some (7, true) }) (v := undef) rfl (by kernel_rfl) (by kernel_rfl) (by kernel_rfl) (fun _ _ _ h => h) (Or.inr ⟨by rfl, rfl⟩) HS ?ra13
            try simp only [Act.put, List.setIfInBounds_toArray, List.set_cons_zero, List.set_cons_succ]
            refine wpAnyH_take (S := (fun wx => FBox wx n1 y)) (i := 14) (oi := { dst := some 36, op := Go.Op.load 34 (Go.Operand.tmp 7), type := 34, pos := "version.go:51", after := #[{ on := 7, ground := Go.Ground.guard }], guard := some (7, true) }) (v := undef) rfl (by kernel_rfl) (by kernel_rfl) (by kernel_rfl) (fun _ _ _ h => h) (Or.inr ⟨by rfl, rfl⟩) HS ?ra14
            try simp only [Act.put, List.setIfInBounds_toArray, List.set_cons_zero, List.set_cons_succ]
            refine wpAnyH_take (S := (fun wx => FBox wx n1 y)) (i := 15) (oi := { dst := some 37, op := Go.Op.call { callee := Go.Callee.value (Go.Operand.func 13), args := #[Go.Operand.tmp 30, Go.Operand.tmp 35, Go.Operand.tmp 36], argTypes := #[3, 34, 34] }, type := 4, pos := "version.go:51", after := #[{ on := 8, ground := Go.Ground.data }, { on := 13, ground := Go.Ground.data }, { on := 14, ground := Go.Ground.data }, { on := 7, ground := Go.Ground.chain }, { on := 7, ground := Go.Ground.guard }], guard := some (7, true) }) (v := undef) rfl (by kernel_rfl) (by kernel_rfl) (by kernel_rfl) (fun _ _ _ h => h) (Or.inr ⟨by rfl, rfl⟩) HS ?ra15
            try simp only [Act.put, List.setIfInBounds_toArray, List.set_cons_zero, List.set_cons_succ]
            refine wpAnyH_take (S := (fun wx => FBox wx n1 y)) (i := 16) (oi := { dst := some 38, op := Go.Op.unOp Go.UnOp.not 4 (Go.Operand.tmp 37), type := 4, pos := "version.go:51", after := #[{ on := 15, ground := Go.Ground.data }, { on := 7, ground := Go.Ground.guard }], guard := some (7, true) }) (v := undef) rfl (by kernel_rfl) (by kernel_rfl) (by kernel_rfl) (fun _ _ _ h => h) (Or.inr ⟨by rfl, rfl⟩) HS ?ra16
            try simp only [Act.put, List.setIfInBounds_toArray, List.set_cons_zero, List.set_cons_succ]
            refine wpAnyH_take (S := (fun wx => FBox wx n1 y)) (i := 17) (oi := { dst := some 39, op := Go.Op.pick (Go.Operand.tmp 29) (Go.Operand.tmp 38) (Go.Operand.const (Go.Value.bool false)), type := 4, pos := "version.go:51", after := #[{ on := 7, ground := Go.Ground.data }, { on := 16, ground := Go.Ground.data }, { on := 4, ground := Go.Ground.guard }], guard := some (4, false) }) (v := undef) rfl (by kernel_rfl) (by kernel_rfl) (by kernel_rfl) (fun _ _ _ h => h) (Or.inr ⟨by rfl, rfl⟩) HS ?ra17
            try simp only [Act.put, List.setIfInBounds_toArray, List.set_cons_zero, List.set_cons_succ]
            refine wpAnyH_take (S := (fun wx => FBox wx n1 y)) (i := 18) (oi := { dst := some 40, op := Go.Op.pick (Go.Operand.tmp 26) (Go.Operand.const (Go.Value.bool true)) (Go.Operand.tmp 39), type := 4, pos := "version.go:51", after := #[{ on := 4, ground := Go.Ground.data }, { on := 17, ground := Go.Ground.data }], guard := none }) (v := .bool true) rfl (by kernel_rfl) (by kernel_rfl) (by kernel_rfl) (fun _ _ _ h => h) (Or.inl ⟨by rfl, ?ya18⟩) HS ?ra18
            case ya18 => (intro w hSw; obtain ⟨s0, s1, s2, s3, s4⟩ := hSw; go_simp; first | done | with_reducible rfl | exact hwj | (intro hh; omega) | skip)
            try simp only [Act.put, List.setIfInBounds_toArray, List.set_cons_zero, List.set_cons_succ]
            refine wpAnyH_done (by kernel_rfl) ?_ _
            refine NoPanic.normal ?_
            go_wp2
            go_ret
            exact ⟨⟨false, rfl, by simp [hnr.out]⟩, (rt_on R1.out (undrew hb2)).below⟩
        · have hj2 : j = (L k).length := by omega
          subst hj2
          replace hr := Lib.hid (rt_level hr)
          go_wp2
          go_roundw
          case rel => exact ⟨k + 1, by omega, by go_num, hr.out⟩
          case measure => simp [intOf]; omega
    · have hk4 : k = 4 := by omega
      subst hk4
      have hlen := smap_len hrt.map
      have hbx := hrt.box
      have y0 := cell_in hbx 0 _ rfl
      have y1 := cell_in hbx 1 _ rfl
      have y2 := cell_in hbx 2 _ rfl
      have y3 := cell_in hbx 3 _ rfl
      have hp0 : part L 4 0 = nums L 4 := part_zero L 4
      rw [hp0] at hlen
      have hri := Lib.hid (right_card hrt.all)
      have hbel := Lib.hid hrt.below
      generalize hcd : card (nums L 4).reverse = c at *
      generalize hnl : (nums L 4).length = n at *
      clear hrt hbx hp0 hcd hnl hk
      go_wp2_with (go_at_call 10; (with_reducible refine (HC.out _).mono ?_); rintro e w2 ⟨rfl, hb2⟩; have B2 := Lib.hid hb2; clear hb2)
      go_ret
      refine ⟨⟨_, rfl, ?_⟩, hbel.out.trans (B2.out.mono hbel.out.size)⟩
      rw [hri.out]
      constructor
      · intro h; simp at h; omega
      · intro h; subst h; simp
end Go.Proofs.YtkocekogkpemiaaDoor.Ve
