/-
  The Go text of versions, walked: a file that comes to no files. Conditions: as each theorem states.
-/
import Derived.Test.YtkocekogkpemiaaDoorVeH
namespace Go.Proofs.YtkocekogkpemiaaDoor.Ve
open Go.RowKit
open Go.Proofs.YtkocekogkpemiaaDoor
open Vi Ba Ed

structure AS (w : World) (x : Fil) (g b : Nat) (v1 : Value) (W : World) : Prop where
  e : W.heap[w.heap.size + 1]? = some (.cells #[.int .u64 0, .int .u64 0, .int .u64 0, .slice (some ⟨g, 0, none⟩) 1 1, .slice none 0 0] 49 (0, 0))
  r : W.heap[w.heap.size + 2]? = some (.cells #[.slice none 0 0, .slice none 0 0, .slice none 0 0, .slice none 0 0] 26 (0, 0))
  v : W.heap[b]? = some (.cells #[.slice none 0 0, v1, .slice none 0 0, .slice none 0 0] 26 (0, 0))
  lt : w.heap.size + 2 < b
  row : ARow W (some ⟨g, 0, none⟩) [x]
  old : g < w.heap.size
  below : Below w.heap.size w W
theorem as_on {w : World} {x : Fil} {g b : Nat} {v1 : Value} {W W' : World} (h : AS w x g b v1 W) (hb : Below W.heap.size W W') : AS w x g b v1 W' :=
  ⟨(hb.block _ (Array.getElem?_eq_some_iff.1 h.e).1).trans h.e, (hb.block _ (Array.getElem?_eq_some_iff.1 h.r).1).trans h.r, (hb.block _ (Array.getElem?_eq_some_iff.1 h.v).1).trans h.v, h.lt, h.row.on hb, h.old, h.below.trans (hb.mono h.below.size)⟩
theorem as_drew {w : World} {x : Fil} {g b : Nat} {v1 : Value} {W : World} (h : AS w x g b v1 W) : AS w x g b v1 W.drew := as_on h ⟨rfl, rfl, rfl, Nat.le_refl _, fun _ _ => rfl⟩
theorem as_set {w : World} {x : Fil} {g b : Nat} {v1 : Value} {W : World} (h : AS w x g b v1 W) (v2 : Value) : AS w x g b v2 (W.setCell ⟨b, 1, none⟩ v2) := by
  have hl := h.lt
  refine ⟨heap_far h.e _ _ _ (by omega), heap_far h.r _ _ _ (by omega), heap_set h.v 1 v2, h.lt, fun h0 => ?_, h.old, h.below.setCell (by show w.heap.size ≤ b; omega) _⟩
  obtain ⟨a, ha, hb, hc⟩ := h.row h0
  injection ha with ha
  subst ha
  refine ⟨_, rfl, by simp; exact hb, fun i hi => ?_⟩
  have k : ∀ q : Addr, q.block = g → (W.setCell ⟨b, 1, none⟩ v2).cell? q = W.cell? q := fun q hq => World.cell?_setCell_far _ _ _ _ (by show b ≠ q.block; have := h.old; omega)
  obtain ⟨c0, c1, c2, c3, c4, c5⟩ := hc i hi
  have hq : ((⟨g, 0, none⟩ : Addr).add (i * 6)).block = g := block_add _ _
  exact ⟨(k _ hq).trans c0, (k ⟨_, _ + 1, none⟩ hq).trans c1, (k ⟨_, _ + 2, none⟩ hq).trans c2, (k ⟨_, _ + 3, none⟩ hq).trans c3, (k ⟨_, _ + 4, none⟩ hq).trans c4, (k ⟨_, _ + 5, none⟩ hq).trans c5⟩
theorem one_any {x : Fil} {g : Nat} {W : World} (ho : x.ok) (h : ARow W (some ⟨g, 0, none⟩) [x]) :
    Calls Tryd.prog 20 #[.agg #[.int .u64 0, .int .u64 0, .int .u64 0, .slice (some ⟨g, 0, none⟩) 1 1, .slice none 0 0]] W (QPost W (.int .i64 (chkA x))) := by
  have := checkE_any (e := ⟨0, 0, 0, [x], []⟩) 1 0 (w := W) (A := some ⟨g, 0, none⟩) (G := none)
    ⟨h, grow_nil _ _, ⟨by show (0 : Nat) < _; omega, by show (0 : Nat) < _; omega, by show (0 : Nat) < _; omega, fun a ha => by rw [List.mem_singleton] at ha; subst ha; exact ho, fun g hg => by cases hg⟩, by simp, by simp⟩
  rw [chkE_one] at this
  exact this
theorem three_blocks {w W : World} {o1 o2 o3 : Obj} (h : Below (((w.alloc o1).alloc o2).alloc o3).heap.size (((w.alloc o1).alloc o2).alloc o3) W) :
    W.heap[w.heap.size]? = some o1 ∧ W.heap[w.heap.size + 1]? = some o2 ∧ W.heap[w.heap.size + 2]? = some o3 := by
  have e1 : (w.alloc o1).heap.size = w.heap.size + 1 := by simp
  have e2 : ((w.alloc o1).alloc o2).heap.size = w.heap.size + 2 := by simp
  have e3 : (((w.alloc o1).alloc o2).alloc o3).heap.size = w.heap.size + 3 := by simp
  have b0 : (((w.alloc o1).alloc o2).alloc o3).heap[w.heap.size]? = some o1 := by
    rw [(MapKept.heap_alloc ((w.alloc o1).alloc o2) o3).2 _ (by omega), (MapKept.heap_alloc (w.alloc o1) o2).2 _ (by omega)]
    exact (MapKept.heap_alloc w o1).1
  have b1 : (((w.alloc o1).alloc o2).alloc o3).heap[w.heap.size + 1]? = some o2 := by
    rw [(MapKept.heap_alloc ((w.alloc o1).alloc o2) o3).2 _ (by omega), ← e1]
    exact (MapKept.heap_alloc (w.alloc o1) o2).1
  have b2 : (((w.alloc o1).alloc o2).alloc o3).heap[w.heap.size + 2]? = some o3 := by
    rw [← e2]
    exact (MapKept.heap_alloc ((w.alloc o1).alloc o2) o3).1
  exact ⟨(h.block _ (by omega)).trans b0, (h.block _ (by omega)).trans b1, (h.block _ (by omega)).trans b2⟩
/-- behind own: the boxes are as they were -/
structure AZ (w : World) (x : Fil) (g : Nat) (W : World) : Prop where
  e : W.heap[w.heap.size + 1]? = some (.cells #[.int .u64 0, .int .u64 0, .int .u64 0, .slice (some ⟨g, 0, none⟩) 1 1, .slice none 0 0] 49 (0, 0))
  r : W.heap[w.heap.size + 2]? = some (.cells #[.slice none 0 0, .slice none 0 0, .slice none 0 0, .slice none 0 0] 26 (0, 0))
  row : ARow W (some ⟨g, 0, none⟩) [x]
  old : g < w.heap.size
  below : Below w.heap.size w W
theorem as_start {w : World} {x : Fil} (g : Nat) {W W' : World} (hg : g < w.heap.size) (hr : ARow w (some ⟨g, 0, none⟩) [x]) (hb : Below w.heap.size w W)
    (q1 : W.heap[w.heap.size + 1]? = some (.cells #[.int .u64 0, .int .u64 0, .int .u64 0, .slice (some ⟨g, 0, none⟩) 1 1, .slice none 0 0] 49 (0, 0)))
    (q2 : W.heap[w.heap.size + 2]? = some (.cells #[.slice none 0 0, .slice none 0 0, .slice none 0 0, .slice none 0 0] 26 (0, 0))) (hb4 : Below W.heap.size W W') : AZ w x g W' :=
  ⟨(hb4.block _ (Array.getElem?_eq_some_iff.1 q1).1).trans q1, (hb4.block _ (Array.getElem?_eq_some_iff.1 q2).1).trans q2, hr.on (hb.trans (hb4.mono hb.size)), hg, hb.trans (hb4.mono hb.size)⟩
theorem as_begin {w : World} {x : Fil} {g : Nat} {W : World} (h : AZ w x g W) : AS w x g W.heap.size (.slice none 0 0) (W.alloc zobj) := by
  have hb : Below W.heap.size W (W.alloc zobj) := (Below.refl _ _).alloc (Nat.le_refl _) _
  have hr := (Array.getElem?_eq_some_iff.1 h.r).1
  exact ⟨(hb.block _ (Array.getElem?_eq_some_iff.1 h.e).1).trans h.e, (hb.block _ hr).trans h.r, (MapKept.heap_alloc W _).1, hr, h.row.on hb, h.old, h.below.trans (hb.mono h.below.size)⟩
theorem arow_cells {W : World} {g : Nat} {x : Fil} (h : ARow W (some ⟨g, 0, none⟩) [x]) : W.cell? ⟨g, 0, none⟩ = some (.int .i64 x.level) ∧ W.cell? ⟨g, 1, none⟩ = some (.int .u64 x.number) ∧ W.cell? ⟨g, 2, none⟩ = some (.int .u64 x.size) ∧ W.cell? ⟨g, 3, none⟩ = some (.int .u64 x.count) ∧ W.cell? ⟨g, 4, none⟩ = some (.string x.least) ∧ W.cell? ⟨g, 5, none⟩ = some (.string x.most) := by
  obtain ⟨a, ha, hb, hc⟩ := h (by simp)
  injection ha with ha
  subst ha
  exact hc 0 (by simp)
def S17 (w : World) (x : Fil) (g b n1 : Nat) (v1 : Value) (W : World) : Prop := AS w x g b v1 W ∧ W.heap[n1]? = some (.cells #[.int .i64 1, .int .u64 x.number, .int .u64 x.size, .int .u64 x.count, .string x.least, .string x.most] 45 (0, 0))
theorem s17_on {w : World} {x : Fil} {g b n1 : Nat} {v1 : Value} {W W' : World} (h : S17 w x g b n1 v1 W) (hb : Below W.heap.size W W') : S17 w x g b n1 v1 W' :=
  ⟨as_on h.1 hb, (hb.block _ (Array.getElem?_eq_some_iff.1 h.2).1).trans h.2⟩
theorem frow_set {W : World} {g b j : Nat} {x : Fil} {v : Value} (h : FRow W (some ⟨g, 0, none⟩) [x]) (hne : b ≠ g) : FRow (W.setCell ⟨b, j, none⟩ v) (some ⟨g, 0, none⟩) [x] := fun h0 => by
  obtain ⟨a, ha, hb, hc⟩ := h h0
  injection ha with ha
  subst ha
  refine ⟨_, rfl, by simp; exact hb, fun i hi => ?_⟩
  have k : ∀ q : Addr, q.block = g → (W.setCell ⟨b, j, none⟩ v).cell? q = W.cell? q := fun q hq => World.cell?_setCell_far _ _ _ _ (by show b ≠ q.block; omega)
  obtain ⟨c0, c1, c2, c3, c4⟩ := hc i hi
  have hq : ((⟨g, 0, none⟩ : Addr).add (i * 5)).block = g := block_add _ _
  exact ⟨(k _ hq).trans c0, (k ⟨_, _ + 1, none⟩ hq).trans c1, (k ⟨_, _ + 2, none⟩ hq).trans c2, (k ⟨_, _ + 3, none⟩ hq).trans c3, (k ⟨_, _ + 4, none⟩ hq).trans c4⟩
theorem frow_ne {W : World} {g b : Nat} {x : Fil} (h : FRow W (some ⟨g, 0, none⟩) [x]) (hb : W.cell? ⟨b, 0, none⟩ = some (.slice none 0 0)) : b ≠ g := fun e => by
  subst e
  obtain ⟨a, ha, _, hc⟩ := h (by simp)
  injection ha with ha
  subst ha
  have c0 := (hc 0 (by simp)).1
  have c1 : W.cell? ⟨b, 0, none⟩ = some (.int .u64 x.number) := c0
  rw [hb] at c1
  cases c1
theorem s17_set {w : World} {x : Fil} {g b n1 : Nat} {v1 : Value} {W : World} (h : S17 w x g b n1 v1 W) (v2 : Value) : S17 w x g b n1 v2 (W.setCell ⟨b, 1, none⟩ v2) := by
  refine ⟨as_set h.1 v2, heap_far h.2 _ _ _ fun e => ?_⟩
  have h1 := h.1.v
  have h2 := h.2
  rw [e] at h1
  rw [h1] at h2
  cases h2
def ARel (w : World) (x : Fil) (g b : Nat) (i : Value) (wr : World) : Prop :=
  (i = .int .i64 0 ∧ AS w x g b (.slice none 0 0) wr) ∨ (i = .int .i64 1 ∧ ∃ (g2 : Nat) (c : Nat), AS w x g b (.slice (some ⟨g2, 0, none⟩) 1 c) wr ∧ FRow wr (some ⟨g2, 0, none⟩) [x])
def L1 (x : Fil) (i : Nat) : List Fil := if i = 1 then [x] else []
theorem right_one {x : Fil} (h1 : x.level = 1) (hc : chkA x = 0) : right (L1 x) := by
  refine ⟨fun i hi j hj => ?_, ?_⟩
  · have e : i = 1 := by
      by_cases e : i = 1
      · exact e
      · simp [L1, e] at hj
    subst e
    have e0 : j = 0 := by simp [L1] at hj; omega
    subst e0
    refine ⟨?_, fun h0 => by omega⟩
    have : atl 1 x = x := by unfold atl; rw [show ((1 : Nat) : Int) = x.level by rw [h1]; rfl]
    show chkA (atl 1 x) = 0
    rw [this]; exact hc
  · simp [nums, L1]
def ApPost (w : World) (x : Fil) (e : Ending) (w' : World) : Prop := ∃ A c, e = .returned (.tuple #[.agg #[.slice none 0 0, .slice A 1 c, .slice none 0 0, .slice none 0 0], .int .i64 0]) ∧ FRow w' A [x] ∧ Below w.heap.size w w'
theorem vlies_one {W : World} {A : Option Addr} {x : Fil} (ho : x.ok) (h : FRow W A [x]) : VLies W (L1 x) (fun i => if i = 1 then A else none) := by
  refine ⟨fun i hi => ?_, fun i hi a ha => ?_, fun i hi => ?_⟩
  · by_cases e : i = 1
    · subst e; exact h
    · simp only [L1, e, if_false]; exact frow_nil _ _
  · by_cases e : i = 1
    · subst e; rw [show L1 x 1 = [x] from rfl, List.mem_singleton] at ha; subst ha; exact ho
    · simp [L1, e] at ha
  · by_cases e : i = 1
    · subst e; show [x].length ≤ _; simp
    · simp [L1, e]
theorem right_l1 {W : World} {A : Option Addr} {x : Fil} (c : Nat) (ho : x.ok) (h1 : x.level = 1) (hc : chkA x = 0) (h : FRow W A [x]) :
    Calls Tryd.prog 6 #[.agg #[.slice none 0 0, .slice A 1 c, .slice none 0 0, .slice none 0 0]] W (QPost W (.bool true)) := by
  refine (right_any (L1 x) (fun i => if i = 1 then A else none) (fun i => if i = 1 then c else 0) (vlies_one ho h)).mono ?_
  rintro e w' ⟨⟨b, rfl, hb⟩, hbl⟩
  have : b = true := hb.2 (right_one h1 hc)
  subst this
  exact ⟨rfl, hbl⟩
set_option maxHeartbeats 4000000 in
set_option maxRecDepth 100000 in
theorem apply_one {w : World} {x : Fil} {g : Nat} (ho : x.ok) (h1 : x.level = 1) (hc : chkA x = 0) (hl : x.least.size ≤ 281474976710656) (hm : x.most.size ≤ 281474976710656) (hg : g < w.heap.size) (hr : ARow w (some ⟨g, 0, none⟩) [x]) :
    Calls Tryd.prog 9 #[zv, .agg #[.int .u64 0, .int .u64 0, .int .u64 0, .slice (some ⟨g, 0, none⟩) 1 1, .slice none 0 0]] w (ApPost w x) := by
  have HC := Lib.hid fun (W : World) (h : ARow W (some ⟨g, 0, none⟩) [x]) => one_any ho h
  rw [hc] at HC
  have HZ := Lib.hid own_zero
  have HP := Lib.hid (put_one 1 x hl hm)
  have HR := Lib.hid fun (W : World) (A : Option Addr) (c : Nat) (h : FRow W A [x]) => right_l1 c ho h1 hc h
  have hb3 := three_below w zobj (.cells #[.int .u64 0, .int .u64 0, .int .u64 0, .slice (some ⟨g, 0, none⟩) 1 1, .slice none 0 0] 49) zobj
  have hrc := Lib.hid (hr.on hb3)
  replace hb3 := Lib.hid hb3
  replace hr := Lib.hid hr
  have hlev := Lib.hid h1
  clear ho h1 hc hl hm
  go_enter Tryd.func9, Tryd.ntmps9
  go_wp2_with (first
    | (go_at_call 20; (with_reducible refine (HC.out _ hrc.out).mono ?_); rintro e w2 ⟨rfl, hb2⟩; obtain ⟨q0, q1, q2⟩ := three_blocks hb2; have y0 := cell_in q0 0 _ rfl; have y1 := cell_in q0 1 _ rfl; have y2 := cell_in q0 2 _ rfl; have y3 := cell_in q0 3 _ rfl; have Q := Lib.hid (And.intro q1 q2); have B2 := Lib.hid (three_then hb2); clear hb2 q0 q1 q2)
    | (go_at_call 21; (with_reducible refine (HZ.out _).mono ?_); rintro e w3 ⟨rfl, hb4⟩; have Q3 := Lib.hid (as_start g hg hr.out B2.out Q.out.1 Q.out.2 hb4); have Q4 := Lib.hid (as_begin Q3.out); have z3 := cell_in Q4.out.e 3 _ rfl; have z4 := cell_in Q4.out.e 4 _ rfl; clear hb4))
  clear y0 y1 y2 y3 z3 z4
  replace Q4 := Q4
  generalize hw4 : w3.alloc _ = w4 at *
  generalize w3.heap.size = b at *
  have z3 := cell_in Q4.out.e 3 _ rfl
  have z4 := cell_in Q4.out.e 4 _ rfl
  go_loopw [25] (fun i wr => i = .int .i64 0 ∧ wr = w4) (fun _ _ => 0)
  case atStart => exact ⟨rfl, rfl⟩
  case round =>
    obtain ⟨rfl, rfl⟩ := hrel
    go_wp2
    go_loopw [53] (ARel w x g b) (fun i _ => 2 - (intOf i).toNat)
    case atStart => exact Or.inl ⟨rfl, Q4.out⟩
    case round =>
      clear Q4 z3 z4 hw4
      rcases hrel with ⟨rfl, Q⟩ | ⟨rfl, g2, c, Q, hf⟩
      · obtain ⟨x0, x1, x2, x3, x4, x5⟩ := arow_cells Q.row
        rw [hlev.out] at x0
        have hgl : g < wr.heap.size := cell_lt (p := ⟨g, 0, none⟩) x0
        have S1 := Lib.hid (And.intro (as_on Q ((Below.refl _ _).alloc (Nat.le_refl _) (.cells #[.int .i64 1, .int .u64 x.number, .int .u64 x.size, .int .u64 x.count, .string x.least, .string x.most] 45))) (MapKept.heap_alloc wr (.cells #[.int .i64 1, .int .u64 x.number, .int .u64 x.size, .int .u64 x.count, .string x.least, .string x.most] 45)).1)
        clear Q
        go_wp2
        clear x0 x1 x2 x3 x4 x5
        generalize (wr.alloc (.cells #[.int .i64 1, .int .u64 x.number, .int .u64 x.size, .int .u64 x.count, .string x.least, .string x.most] 45)) = w5 at *
        generalize wr.heap.size = n1 at *
        refine wp_region_noPanic ?_
        refine wp_region_held_drew (S := (fun wx => ∃ v1, S17 w x g b n1 v1 wx)) (by kernel_rfl) ⟨_, s17_on S1.out ⟨rfl, rfl, rfl, Nat.le_refl _, fun _ _ => rfl⟩⟩ (fun HS => ?_)
        refine wpAnyH_take (S := (fun wx => ∃ v1, S17 w x g b n1 v1 wx)) (i := 0) (oi := { dst := some 57, op := Go.Op.fieldAddr 45 (Go.Operand.tmp 13) 0, type := 0, pos := "version.go:38", after := #[], guard := none }) (v := ?v0) rfl (by kernel_rfl) (by kernel_rfl) (by kernel_rfl) (fun _ _ _ h => h) (Or.inl ⟨by rfl, ?y0⟩) HS ?r0
        case y0 => (intro wx hSw; obtain ⟨v1, hSw⟩ := hSw; have s0 := cell_in hSw.2 0 _ rfl; have s1 := cell_in hSw.2 1 _ rfl; have s2 := cell_in hSw.2 2 _ rfl; have s3 := cell_in hSw.2 3 _ rfl; have s4 := cell_in hSw.2 4 _ rfl; have s5 := cell_in hSw.2 5 _ rfl; go_simp; first | done | with_reducible rfl | skip)
        try simp only [Act.put, List.setIfInBounds_toArray, List.set_cons_zero, List.set_cons_succ]
        refine wpAnyH_take (S := (fun wx => ∃ v1, S17 w x g b n1 v1 wx)) (i := 1) (oi := { dst := some 58, op := Go.Op.load 3 (Go.Operand.tmp 57), type := 3, pos := "version.go:38", after := #[{ on := 0, ground := Go.Ground.data }], guard := none }) (v := ?v1) rfl (by kernel_rfl) (by kernel_rfl) (by kernel_rfl) (fun _ _ _ h => h) (Or.inl ⟨by rfl, ?y1⟩) HS ?r1
        case y1 => (intro wx hSw; obtain ⟨v1, hSw⟩ := hSw; have s0 := cell_in hSw.2 0 _ rfl; have s1 := cell_in hSw.2 1 _ rfl; have s2 := cell_in hSw.2 2 _ rfl; have s3 := cell_in hSw.2 3 _ rfl; have s4 := cell_in hSw.2 4 _ rfl; have s5 := cell_in hSw.2 5 _ rfl; go_simp; first | done | with_reducible rfl | skip)
        try simp only [Act.put, List.setIfInBounds_toArray, List.set_cons_zero, List.set_cons_succ]
        refine wpAnyH_take (S := (fun wx => ∃ v1, S17 w x g b n1 v1 wx)) (i := 2) (oi := { dst := some 59, op := Go.Op.fieldAddr 45 (Go.Operand.tmp 13) 0, type := 0, pos := "version.go:38", after := #[], guard := none }) (v := ?v2) rfl (by kernel_rfl) (by kernel_rfl) (by kernel_rfl) (fun _ _ _ h => h) (Or.inl ⟨by rfl, ?y2⟩) HS ?r2
        case y2 => (intro wx hSw; obtain ⟨v1, hSw⟩ := hSw; have s0 := cell_in hSw.2 0 _ rfl; have s1 := cell_in hSw.2 1 _ rfl; have s2 := cell_in hSw.2 2 _ rfl; have s3 := cell_in hSw.2 3 _ rfl; have s4 := cell_in hSw.2 4 _ rfl; have s5 := cell_in hSw.2 5 _ rfl; go_simp; first | done | with_reducible rfl | skip)
        try simp only [Act.put, List.setIfInBounds_toArray, List.set_cons_zero, List.set_cons_succ]
        refine wpAnyH_take (S := (fun wx => ∃ v1, S17 w x g b n1 v1 wx)) (i := 3) (oi := { dst := some 60, op := Go.Op.load 3 (Go.Operand.tmp 59), type := 3, pos := "version.go:38", after := #[{ on := 2, ground := Go.Ground.data }], guard := none }) (v := ?v3) rfl (by kernel_rfl) (by kernel_rfl) (by kernel_rfl) (fun _ _ _ h => h) (Or.inl ⟨by rfl, ?y3⟩) HS ?r3
        case y3 => (intro wx hSw; obtain ⟨v1, hSw⟩ := hSw; have s0 := cell_in hSw.2 0 _ rfl; have s1 := cell_in hSw.2 1 _ rfl; have s2 := cell_in hSw.2 2 _ rfl; have s3 := cell_in hSw.2 3 _ rfl; have s4 := cell_in hSw.2 4 _ rfl; have s5 := cell_in hSw.2 5 _ rfl; go_simp; first | done | with_reducible rfl | skip)
        try simp only [Act.put, List.setIfInBounds_toArray, List.set_cons_zero, List.set_cons_succ]
        refine wpAnyH_take (S := (fun wx => ∃ v1, S17 w x g b n1 v1 wx)) (i := 4) (oi := { dst := some 61, op := Go.Op.fieldAddr 26 (Go.Operand.tmp 7) 0, type := 0, pos := "version.go:38", after := #[], guard := none }) (v := ?v4) rfl (by kernel_rfl) (by kernel_rfl) (by kernel_rfl) (fun _ _ _ h => h) (Or.inl ⟨by rfl, ?y4⟩) HS ?r4
        case y4 => (intro wx hSw; obtain ⟨v1, hSw⟩ := hSw; have s0 := cell_in hSw.2 0 _ rfl; have s1 := cell_in hSw.2 1 _ rfl; have s2 := cell_in hSw.2 2 _ rfl; have s3 := cell_in hSw.2 3 _ rfl; have s4 := cell_in hSw.2 4 _ rfl; have s5 := cell_in hSw.2 5 _ rfl; go_simp; first | done | with_reducible rfl | skip)
        try simp only [Act.put, List.setIfInBounds_toArray, List.set_cons_zero, List.set_cons_succ]
        refine wpAnyH_take (S := (fun wx => ∃ v1, S17 w x g b n1 v1 wx)) (i := 5) (oi := { dst := some 62, op := Go.Op.indexAddr 24 (Go.Operand.tmp 61) (Go.Operand.tmp 60), type := 0, pos := "version.go:38", after := #[{ on := 4, ground := Go.Ground.data }, { on := 3, ground := Go.Ground.data }], guard := none }) (v := ?v5) rfl (by kernel_rfl) (by kernel_rfl) (by kernel_rfl) (fun _ _ _ h => h) (Or.inl ⟨by rfl, ?y5⟩) HS ?r5
        case y5 => (intro wx hSw; obtain ⟨v1, hSw⟩ := hSw; have s0 := cell_in hSw.2 0 _ rfl; have s1 := cell_in hSw.2 1 _ rfl; have s2 := cell_in hSw.2 2 _ rfl; have s3 := cell_in hSw.2 3 _ rfl; have s4 := cell_in hSw.2 4 _ rfl; have s5 := cell_in hSw.2 5 _ rfl; go_simp; first | done | with_reducible rfl | skip)
        try simp only [Act.put, List.setIfInBounds_toArray, List.set_cons_zero, List.set_cons_succ]
        refine wpAnyH_take (S := (fun wx => ∃ v1, S17 w x g b n1 v1 wx)) (i := 7) (oi := { dst := some 64, op := Go.Op.load 45 (Go.Operand.tmp 13), type := 45, pos := "version.go:38", after := #[], guard := none }) (v := ?v7) rfl (by kernel_rfl) (by kernel_rfl) (by kernel_rfl) (fun _ _ _ h => h) (Or.inl ⟨by rfl, ?y7⟩) HS ?r7
        case y7 => (intro wx hSw; obtain ⟨v1, hSw⟩ := hSw; have s0 := cell_in hSw.2 0 _ rfl; have s1 := cell_in hSw.2 1 _ rfl; have s2 := cell_in hSw.2 2 _ rfl; have s3 := cell_in hSw.2 3 _ rfl; have s4 := cell_in hSw.2 4 _ rfl; have s5 := cell_in hSw.2 5 _ rfl; go_simp; first | done | with_reducible rfl | skip)
        try simp only [Act.put, List.setIfInBounds_toArray, List.set_cons_zero, List.set_cons_succ]
        refine wpAnyH_take (S := (fun wx => ∃ v1, S17 w x g b n1 v1 wx)) (i := 9) (oi := { dst := some 66, op := Go.Op.fieldAddr 26 (Go.Operand.tmp 7) 0, type := 0, pos := "version.go:38", after := #[], guard := none }) (v := ?v9) rfl (by kernel_rfl) (by kernel_rfl) (by kernel_rfl) (fun _ _ _ h => h) (Or.inl ⟨by rfl, ?y9⟩) HS ?r9
        case y9 => (intro wx hSw; obtain ⟨v1, hSw⟩ := hSw; have s0 := cell_in hSw.2 0 _ rfl; have s1 := cell_in hSw.2 1 _ rfl; have s2 := cell_in hSw.2 2 _ rfl; have s3 := cell_in hSw.2 3 _ rfl; have s4 := cell_in hSw.2 4 _ rfl; have s5 := cell_in hSw.2 5 _ rfl; go_simp; first | done | with_reducible rfl | skip)
        try simp only [Act.put, List.setIfInBounds_toArray, List.set_cons_zero, List.set_cons_succ]
        have R5 := Lib.hid (s17_on S1.out (W' := w5.drew) ⟨rfl, rfl, rfl, Nat.le_refl _, fun _ _ => rfl⟩)
        refine wpAnyH_ready (rs := [6]) (by kernel_rfl) (by simp) ?_
        refine AllReadyH.cons (o := { dst := some 63, op := Go.Op.load 22 (Go.Operand.tmp 62), type := 22, pos := "version.go:38", after := #[{ on := 5, ground := Go.Ground.data }], guard := none }) rfl (fun K hK => ?_) AllReadyH.nil
        have k1 := cell_in R5.out.1.v 1 _ rfl
        go_simp
        clear k1
        refine hK.out _ _ ⟨_, R5.out⟩ (fun HS => ?_)
        try simp only [Act.put, List.setIfInBounds_toArray, List.set_cons_zero, List.set_cons_succ]
        refine wpAnyH_ready (rs := [8]) (by kernel_rfl) (by simp) ?_
        refine AllReadyH.cons (o := { dst := some 65, op := Go.Op.call { callee := Go.Callee.value (Go.Operand.func 25), args := #[Go.Operand.tmp 63, Go.Operand.tmp 64], argTypes := #[22, 45] }, type := 22, pos := "version.go:38", after := #[{ on := 6, ground := Go.Ground.data }, { on := 7, ground := Go.Ground.data }], guard := none }) rfl (fun K hK => ?_) AllReadyH.nil
        go_simp
        refine (HP.out _).mono ?_; rintro e w6 ⟨g6, c, rfl, hf6, hb6⟩; have R6 := Lib.hid (s17_on R5.out hb6); have F6 := Lib.hid hf6; clear hf6
        refine hK.out _ _ ⟨_, R6.out⟩ (fun HS => ?_)
        try simp only [Act.put, List.setIfInBounds_toArray, List.set_cons_zero, List.set_cons_succ]
        refine wpAnyH_take (S := (fun wx => ∃ v1, S17 w x g b n1 v1 wx)) (i := 10) (oi := { dst := some 67, op := Go.Op.indexAddr 24 (Go.Operand.tmp 66) (Go.Operand.tmp 58), type := 0, pos := "version.go:38", after := #[{ on := 9, ground := Go.Ground.data }, { on := 1, ground := Go.Ground.data }, { on := 0, ground := Go.Ground.phase }, { on := 1, ground := Go.Ground.phase }, { on := 2, ground := Go.Ground.phase }, { on := 3, ground := Go.Ground.phase }, { on := 4, ground := Go.Ground.phase }, { on := 5, ground := Go.Ground.phase }, { on := 6, ground := Go.Ground.phase }, { on := 7, ground := Go.Ground.phase }, { on := 8, ground := Go.Ground.phase }], guard := none }) (v := ?v10) rfl (by kernel_rfl) (by kernel_rfl) (by kernel_rfl) (fun _ _ _ h => h) (Or.inl ⟨by rfl, ?y10⟩) HS ?r10
        case y10 => (intro wx hSw; obtain ⟨v1, hSw⟩ := hSw; have s0 := cell_in hSw.2 0 _ rfl; have s1 := cell_in hSw.2 1 _ rfl; have s2 := cell_in hSw.2 2 _ rfl; have s3 := cell_in hSw.2 3 _ rfl; have s4 := cell_in hSw.2 4 _ rfl; have s5 := cell_in hSw.2 5 _ rfl; go_simp; first | done | with_reducible rfl | skip)
        try simp only [Act.put, List.setIfInBounds_toArray, List.set_cons_zero, List.set_cons_succ]
        refine wpAnyH_ready (rs := [11]) (by kernel_rfl) (by simp) ?_
        refine AllReadyH.cons (o := { dst := none, op := Go.Op.store 22 (Go.Operand.tmp 67) (Go.Operand.tmp 65), type := 0, pos := "version.go:38", after := #[{ on := 10, ground := Go.Ground.data }, { on := 8, ground := Go.Ground.data }, { on := 8, ground := Go.Ground.chain }, { on := 0, ground := Go.Ground.phase }, { on := 1, ground := Go.Ground.phase }, { on := 2, ground := Go.Ground.phase }, { on := 3, ground := Go.Ground.phase }, { on := 4, ground := Go.Ground.phase }, { on := 5, ground := Go.Ground.phase }, { on := 6, ground := Go.Ground.phase }, { on := 7, ground := Go.Ground.phase }, { on := 8, ground := Go.Ground.phase }], guard := none }) rfl (fun K hK => ?_) AllReadyH.nil
        have c9 := cell_in R6.out.1.v 1 _ rfl; have f9 := free_in R6.out.1.v 1
        go_simp
        clear c9 f9
        have R7 := Lib.hid (s17_set R6.out (.slice (some ⟨g6, 0, none⟩) 1 c))
        have F7 := Lib.hid (frow_set (j := 1) (v := .slice (some ⟨g6, 0, none⟩) 1 c) F6.out (frow_ne F6.out (cell_in R6.out.1.v 0 _ rfl)))
        refine hK.out _ _ ⟨_, R7.out⟩ (fun HS => ?_)
        try simp only [Act.put, List.setIfInBounds_toArray, List.set_cons_zero, List.set_cons_succ]
        refine wpAnyH_done (by kernel_rfl) ?_ _
        refine NoPanic.normal ?_
        clear HS
        go_wp2
        go_roundw
        case rel => exact Or.inr ⟨by go_num, g6, c, R7.out.1, F7.out⟩
        case measure => simp [intOf]
      · have v0 := cell_in Q.v 0 _ rfl
        have v1 := cell_in Q.v 1 _ rfl
        have v2 := cell_in Q.v 2 _ rfl
        have v3 := cell_in Q.v 3 _ rfl
        have hf2 := Lib.hid (HR.out _ (some ⟨g2, 0, none⟩) c hf)
        replace Q := Lib.hid Q
        go_wp2_with (go_at_call 6; (with_reducible refine (hf2.out).mono ?_); rintro e w5 ⟨rfl, hb5⟩; have Q5 := Lib.hid (as_on Q.out hb5); have F5 := Lib.hid (FRow.on hf hb5); have u0 := cell_in Q5.out.v 0 _ rfl; have u1 := cell_in Q5.out.v 1 _ rfl; have u2 := cell_in Q5.out.v 2 _ rfl; have u3 := cell_in Q5.out.v 3 _ rfl; have r0 := cell_in Q5.out.r 0 _ rfl; have r1 := cell_in Q5.out.r 1 _ rfl; have r2 := cell_in Q5.out.r 2 _ rfl; have r3 := cell_in Q5.out.r 3 _ rfl; have t0 := free_in Q5.out.r 0; have t1 := free_in Q5.out.r 1; have t2 := free_in Q5.out.r 2; have t3 := free_in Q5.out.r 3; clear hb5)
        have hne : w.heap.size + 1 + 1 ≠ g2 := frow_ne F5.out r0
        exact ret_ver2 rfl rfl rfl rfl (cell_in (heap_set (heap_set (heap_set (heap_set Q5.out.r 0 (.slice none 0 0)) 1 (.slice (some ⟨g2, 0, none⟩) 1 c)) 2 (.slice none 0 0)) 3 (.slice none 0 0)) 0 _ rfl)
          (cell_in (heap_set (heap_set (heap_set (heap_set Q5.out.r 0 (.slice none 0 0)) 1 (.slice (some ⟨g2, 0, none⟩) 1 c)) 2 (.slice none 0 0)) 3 (.slice none 0 0)) 1 _ rfl)
          (cell_in (heap_set (heap_set (heap_set (heap_set Q5.out.r 0 (.slice none 0 0)) 1 (.slice (some ⟨g2, 0, none⟩) 1 c)) 2 (.slice none 0 0)) 3 (.slice none 0 0)) 2 _ rfl)
          (cell_in (heap_set (heap_set (heap_set (heap_set Q5.out.r 0 (.slice none 0 0)) 1 (.slice (some ⟨g2, 0, none⟩) 1 c)) 2 (.slice none 0 0)) 3 (.slice none 0 0)) 3 _ rfl)
          ⟨some ⟨g2, 0, none⟩, c, rfl, frow_set (frow_set (frow_set (frow_set F5.out hne) hne) hne) hne, (((Q5.out.below.setCell (by simp; omega) _).setCell (by simp; omega) _).setCell (by simp; omega) _).setCell (by simp; omega) _⟩
end Go.Proofs.YtkocekogkpemiaaDoor.Ve
