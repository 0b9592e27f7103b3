/-
  The Go text of edits, walked: rows in memory, Check. Conditions: as each theorem states.
-/
import Derived.Test.YtkocekogkpemiaaDoorEdC
namespace Go.Proofs.YtkocekogkpemiaaDoor.Ed
open Go.RowKit
open Go.Proofs.YtkocekogkpemiaaDoor
open Vi Ba

def ACells (W : World) (q : Addr) (a : Fil) : Prop := W.cell? q = some (.int .i64 a.level) ∧ W.cell? ⟨q.block, q.off + 1, none⟩ = some (.int .u64 a.number) ∧ W.cell? ⟨q.block, q.off + 2, none⟩ = some (.int .u64 a.size) ∧ W.cell? ⟨q.block, q.off + 3, none⟩ = some (.int .u64 a.count) ∧ W.cell? ⟨q.block, q.off + 4, none⟩ = some (.string a.least) ∧ W.cell? ⟨q.block, q.off + 5, none⟩ = some (.string a.most)
def GCells (W : World) (q : Addr) (g : Gon) : Prop := W.cell? q = some (.int .i64 g.level) ∧ W.cell? ⟨q.block, q.off + 1, none⟩ = some (.int .u64 g.number)
theorem ACells.on {W W' : World} {q : Addr} {a : Fil} (h : ACells W q a) (hq : q.block < W.heap.size) (hb : Below W.heap.size W W') : ACells W' q a := by
  obtain ⟨c0, c1, c2, c3, c4, c5⟩ := h
  have k : ∀ j : Nat, W'.cell? ⟨q.block, q.off + j, none⟩ = W.cell? ⟨q.block, q.off + j, none⟩ := fun j => hb.cell (p := ⟨q.block, q.off + j, none⟩) hq
  exact ⟨(hb.cell (p := q) hq).trans c0, (k 1).trans c1, (k 2).trans c2, (k 3).trans c3, (k 4).trans c4, (k 5).trans c5⟩
theorem GCells.on {W W' : World} {q : Addr} {g : Gon} (h : GCells W q g) (hq : q.block < W.heap.size) (hb : Below W.heap.size W W') : GCells W' q g := by
  obtain ⟨c0, c1⟩ := h
  exact ⟨(hb.cell (p := q) hq).trans c0, (hb.cell (p := ⟨q.block, q.off + 1, none⟩) hq).trans c1⟩
def ARow (W : World) (ao : Option Addr) (l : List Fil) : Prop := 0 < l.length → ∃ a, ao = some a ∧ a.block < W.heap.size ∧ ∀ i (hi : i < l.length), ACells W (a.add (i * 6)) l[i]
def GRow (W : World) (ao : Option Addr) (l : List Gon) : Prop := 0 < l.length → ∃ a, ao = some a ∧ a.block < W.heap.size ∧ ∀ i (hi : i < l.length), GCells W (a.add (i * 2)) l[i]
theorem ARow.on {W W' : World} {ao : Option Addr} {l : List Fil} (h : ARow W ao l) (hb : Below W.heap.size W W') : ARow W' ao l := fun h0 => by
  obtain ⟨a, rfl, h1, h2⟩ := h h0
  have := hb.size
  exact ⟨a, rfl, by omega, fun i hi => (h2 i hi).on (by rw [block_add]; exact h1) hb⟩
theorem GRow.on {W W' : World} {ao : Option Addr} {l : List Gon} (h : GRow W ao l) (hb : Below W.heap.size W W') : GRow W' ao l := fun h0 => by
  obtain ⟨a, rfl, h1, h2⟩ := h h0
  have := hb.size
  exact ⟨a, rfl, by omega, fun i hi => (h2 i hi).on (by rw [block_add]; exact h1) hb⟩
theorem arow_nil (w : World) (A : Option Addr) : ARow w A [] := fun h => by simp at h
theorem grow_nil (w : World) (A : Option Addr) : GRow w A [] := fun h => by simp at h
theorem check_at (y : Fil) (ho : y.ok) (w : World) : Calls Tryd.prog 30 #[.agg #[.int .i64 y.level, .int .u64 y.number, .int .u64 y.size, .int .u64 y.count, .string y.least, .string y.most]] w (QPost w (.int .i64 (chkA y))) := check_any y ho w
theorem lit_any (g : Gon) (w : World) : Calls Tryd.prog 32 #[.agg #[.int .i64 g.level, .int .u64 g.number]] w (QPost w (.bool (!decide (lvOk g.level)))) := by
  obtain ⟨v, n⟩ := g
  have HV := Lib.hid (level_any v)
  go_enter Tryd.func32, Tryd.ntmps32
  go_wp2_with (go_at_call 33; (with_reducible refine (HV.out _).mono ?_); rintro e w' ⟨rfl, rfl⟩)
  go_ret
  exact ⟨rfl, (Below.refl _ _).alloc (Nat.le_refl _) _⟩
def IxRel (w : World) (l : List Gon) (i : Value) (wr : World) : Prop := ∃ j : Nat, j ≤ l.length ∧ i = .int .i64 (j : Nat) ∧ Below w.heap.size w wr ∧ ∀ k (hk : k < l.length), k < j → lvOk l[k].level
abbrev litFn : Value := .func (.func 32) #[] #[]
theorem lit_at (y : Gon) (w : World) (b : Bool) (h : (!decide (lvOk y.level)) = b) : Calls Tryd.prog 32 #[.agg #[.int .i64 y.level, .int .u64 y.number]] w (QPost w (.bool b)) := by
  subst h; exact lit_any y w
set_option maxHeartbeats 1000000 in
set_option maxRecDepth 100000 in
theorem index_any {w : World} {G : Option Addr} {l : List Gon} (d : Nat) (RG : GRow w G l) (hl : l.length ≤ 9223372036854775807) :
    Calls Tryd.prog 41 #[.slice G l.length d, litFn] w fun e w' => (∃ k : Int, e = .returned (.int .i64 k) ∧ decide (k < 0) = decide (∀ g ∈ l, lvOk g.level)) ∧ Below w.heap.size w w' := by
  replace RG := Lib.hid RG
  go_enter Tryd.func41, Tryd.ntmps41
  go_wp2
  go_loopw [8] (IxRel w l) (fun i _ => l.length - (intOf i).toNat)
  case atStart => exact ⟨0, by omega, rfl, Below.refl _ _, fun k _ h => by omega⟩
  case round =>
    obtain ⟨j, hj, rfl, hb, hall⟩ := hrel
    have HA := Lib.hid hall
    clear hall
    by_cases hlt : j < l.length
    · obtain ⟨a, rfl, hab, hca⟩ := RG.out (by omega)
      have hbl : (a.add (j * 2)).block < w.heap.size := by rw [block_add]; exact hab
      obtain ⟨x0, x1⟩ := (hca j hlt).on hbl hb
      clear hca
      have HB := Lib.hid hb
      clear hb
      by_cases hv : lvOk l[j].level
      · have HC := Lib.hid fun W => lit_at l[j] W false (by rw [decide_eq_true hv]; rfl)
        have HN : Hid (∀ k (hk : k < l.length), k < j + 1 → lvOk l[k].level) := fun k hk hkj => by
          by_cases e : k = j
          · subst e; exact hv
          · exact HA.out k hk (by omega)
        clear hv HA
        generalize l[j] = y at *
        go_wp2_with (go_at_call 32; (with_reducible refine (HC.out _).mono ?_); rintro e w2 ⟨rfl, hb2⟩)
        go_roundw
        case rel => exact ⟨j + 1, by omega, by go_num, HB.out.trans (hb2.mono HB.out.size), HN.out⟩
        case measure => simp [intOf]; omega
      · have HC := Lib.hid fun W => lit_at l[j] W true (by rw [decide_eq_false hv]; rfl)
        have HN : Hid (¬ ∀ g ∈ l, lvOk g.level) := fun h => hv (h _ (List.getElem_mem hlt))
        clear hv HA
        generalize l[j] = y at *
        go_wp2_with (go_at_call 32; (with_reducible refine (HC.out _).mono ?_); rintro e w2 ⟨rfl, hb2⟩)
        go_ret
        exact ⟨⟨_, rfl, by rw [decide_eq_false HN.out]; exact decide_eq_false (by omega)⟩, HB.out.trans (hb2.mono HB.out.size)⟩
    · have hj2 : j = l.length := by omega
      have HN : Hid (∀ g ∈ l, lvOk g.level) := fun g hg => by
        obtain ⟨k, hk, rfl⟩ := List.getElem_of_mem hg
        exact HA.out k hk (by omega)
      subst hj2
      clear HA
      go_wp2
      go_ret
      exact ⟨⟨_, rfl, by rw [decide_eq_true HN.out]; rfl⟩, hb⟩
theorem contains_any {w : World} {G : Option Addr} {l : List Gon} (d : Nat) (RG : GRow w G l) (hl : l.length ≤ 9223372036854775807) (b : Bool) (hb : decide (∀ g ∈ l, lvOk g.level) = b) :
    Calls Tryd.prog 31 #[.slice G l.length d, litFn] w (QPost w (.bool (!b))) := by
  have HI := Lib.hid (index_any d RG hl)
  clear RG
  rw [hb] at HI
  clear hb
  go_enter Tryd.func31, Tryd.ntmps31
  go_wp2_with (go_at_call 41; (with_reducible refine HI.out.mono ?_); rintro e w2 ⟨⟨k, rfl, hk⟩, hb2⟩)
  go_ret
  refine ⟨?_, hb2⟩
  rw [← hk]
  by_cases h0 : k < 0
  · have e : decide (0 ≤ k) = false := decide_eq_false (by omega)
    simp [h0, e]
  · have e : decide (0 ≤ k) = true := decide_eq_true (by omega)
    simp [h0, e]
theorem chkL_bad {l : List Fil} {j : Nat} (hj : j < l.length) (h : ¬ chkA l[j] = 0) : chkL (l.drop j) = chkA l[j] := by
  rw [List.drop_eq_getElem_cons hj, chkL, if_neg h]
theorem chkL_on {l : List Fil} {j : Nat} (hj : j < l.length) (h : chkA l[j] = 0) : chkL (l.drop j) = chkL (l.drop (j + 1)) := by
  rw [List.drop_eq_getElem_cons hj, chkL, if_pos h]
theorem chkE_go {e : Edt} (h : ¬ (200 < e.come.length ∨ 200 < e.go.length)) (hg : ¬ chkL e.come = 0) : chkE e = chkL e.come := by unfold chkE; rw [if_neg h, if_neg hg]
theorem box5 {w wr : World} {x0 x1 x2 x3 x4 : Value} {t : TypeId} (hb : Below (w.heap.size + 1) (w.alloc (.cells #[x0, x1, x2, x3, x4] t (0, 0))) wr) :
    wr.cell? ⟨w.heap.size, 0, none⟩ = some x0 ∧ wr.cell? ⟨w.heap.size, 1, none⟩ = some x1 ∧ wr.cell? ⟨w.heap.size, 2, none⟩ = some x2 ∧ wr.cell? ⟨w.heap.size, 3, none⟩ = some x3 ∧ wr.cell? ⟨w.heap.size, 4, none⟩ = some x4 := by
  have h : wr.heap[w.heap.size]? = some (.cells #[x0, x1, x2, x3, x4] t (0, 0)) := (hb.block w.heap.size (by omega)).trans (heap_alloc_new w _)
  exact ⟨cell_in h 0 _ rfl, cell_in h 1 _ rfl, cell_in h 2 _ rfl, cell_in h 3 _ rfl, cell_in h 4 _ rfl⟩
def Edt.val (e : Edt) (A : Option Addr) (c : Nat) (G : Option Addr) (d : Nat) : Value := .agg #[.int .u64 e.log, .int .u64 e.next, .int .u64 e.seq, .slice A e.come.length c, .slice G e.go.length d]
def Edt.box (e : Edt) (A : Option Addr) (c : Nat) (G : Option Addr) (d : Nat) : Obj := .cells #[.int .u64 e.log, .int .u64 e.next, .int .u64 e.seq, .slice A e.come.length c, .slice G e.go.length d] 49 (0, 0)
/-- an edit that lies in memory -/
structure Lies (W : World) (e : Edt) (A G : Option Addr) : Prop where
  a : ARow W A e.come
  g : GRow W G e.go
  ok : e.ok
  la : e.come.length ≤ 9223372036854775807
  lg : e.go.length ≤ 9223372036854775807
theorem Lies.on {W W' : World} {e : Edt} {A G : Option Addr} (h : Lies W e A G) (hb : Below W.heap.size W W') : Lies W' e A G := ⟨h.a.on hb, h.g.on hb, h.ok, h.la, h.lg⟩
def CkRel (w : World) (o : Obj) (l : List Fil) (i : Value) (wr : World) : Prop := ∃ j : Nat, j ≤ l.length ∧ i = .int .i64 (j : Nat) ∧ Below (w.heap.size + 1) (w.alloc o) wr ∧ chkL (l.drop j) = chkL l
set_option maxHeartbeats 1000000 in
set_option maxRecDepth 100000 in
theorem checkE_any {e : Edt} {A G : Option Addr} (c d : Nat) {w : World} (H : Lies w e A G) :
    Calls Tryd.prog 20 #[e.val A c G d] w (QPost w (.int .i64 (chkE e))) := by
  obtain ⟨log, next, seq, come, go⟩ := e
  obtain ⟨RA, RG, ⟨_, _, _, oa, og⟩, la, lg⟩ := H
  simp only at *
  replace RA := Lib.hid RA
  replace RG := Lib.hid RG
  replace oa := Lib.hid oa
  replace og := Lib.hid og
  unfold Edt.val
  simp only
  by_cases h2 : 200 < come.length ∨ 200 < go.length
  · rw [show chkE ⟨log, next, seq, come, go⟩ = 6 from if_pos h2]
    rcases h2 with h2 | h2
    · go_enter Tryd.func20, Tryd.ntmps20
      go_wp2
      go_ret
      exact ⟨rfl, (Below.refl _ _).alloc (Nat.le_refl _) _⟩
    · by_cases h3 : 200 < come.length
      · go_enter Tryd.func20, Tryd.ntmps20
        go_wp2
        go_ret
        exact ⟨rfl, (Below.refl _ _).alloc (Nat.le_refl _) _⟩
      · go_enter Tryd.func20, Tryd.ntmps20
        go_wp2
        go_ret
        exact ⟨rfl, (Below.refl _ _).alloc (Nat.le_refl _) _⟩
  have hc2 : come.length ≤ 200 := by omega
  have hg2 : go.length ≤ 200 := by omega
  replace h2 := Lib.hid h2
  go_enter Tryd.func20, Tryd.ntmps20
  go_wp2
  go_loopw [19] (CkRel w (.cells #[.int .u64 log, .int .u64 next, .int .u64 seq, .slice A come.length c, .slice G go.length d] 49 (0, 0)) come) (fun i _ => come.length - (intOf i).toNat)
  case atStart => exact ⟨0, by omega, rfl, Below.refl _ _, rfl⟩
  case round =>
    obtain ⟨j, hj, rfl, hb, hgo⟩ := hrel
    have HG := Lib.hid hgo
    clear hgo
    by_cases hlt : j < come.length
    · obtain ⟨a, rfl, hab, hca⟩ := RA.out (by omega)
      have hbl : (a.add (j * 6)).block < w.heap.size := by rw [block_add]; exact hab
      obtain ⟨x0, x1, x2, x3, x4, x5⟩ := (hca j hlt).on hbl (box_below hb)
      have HC := check_at come[j] (oa.out _ (List.getElem_mem hlt))
      clear hca
      have HB := Lib.hid hb
      clear hb
      by_cases hc : chkA come[j] = 0
      · have hon := chkL_on hlt hc
        rw [hc] at HC
        have HC := Lib.hid HC
        have HH := Lib.hid (hon.symm.trans HG.out)
        clear hc hon
        generalize come[j] = y at *
        go_wp2_with (go_at_call 30; refine (HC.out _).mono ?_; rintro e w2 ⟨rfl, hb2⟩)
        go_roundw
        case rel => exact ⟨j + 1, by omega, by go_num, box_step HB.out hb2, HH.out⟩
        case measure => simp [intOf]; omega
      · have HH := Lib.hid ((chkE_go (e := ⟨log, next, seq, come, go⟩) h2.out (by show ¬ chkL come = 0; rw [← HG.out, chkL_bad hlt hc]; exact hc)).trans (HG.out.symm.trans (chkL_bad hlt hc)))
        have HC := Lib.hid HC
        generalize come[j] = y at *
        have hc' : (chkA y == 0) = false := by simpa using hc
        have hc2 : (chkA y != 0) = true := by simp [bne, hc']
        generalize chkA y = z at *
        go_wp2_with (go_at_call 30; refine (HC.out _).mono ?_; rintro e w2 ⟨rfl, hb2⟩)
        go_ret
        exact ⟨by rw [HH.out]; rfl, box_below (box_step HB.out hb2)⟩
    · have hj2 : j = come.length := by omega
      subst hj2
      have h0 : chkL come = 0 := by rw [← HG.out, List.drop_of_length_le (Nat.le_refl _)]; rfl
      obtain ⟨b0, b1, b2, b3, b4⟩ := box5 hb
      have HB := Lib.hid hb
      have E : chkE ⟨log, next, seq, come, go⟩ = if ∀ g ∈ go, lvOk g.level then 0 else 21 := by unfold chkE; rw [if_neg h2.out, if_pos h0]
      replace E := Lib.hid E
      have HK := Lib.hid fun (W : World) (b : Bool) (h : decide (∀ g ∈ go, lvOk g.level) = b) (R : GRow W G go) => contains_any d R lg b h
      have R2 := Lib.hid (RG.out.on (box_below HB.out))
      clear hb h0 HG
      by_cases hv : ∀ g ∈ go, lvOk g.level
      · have E2 : Hid (chkE ⟨log, next, seq, come, go⟩ = 0) := E.out.trans (if_pos hv)
        have HV := Lib.hid (decide_eq_true hv)
        clear hv E
        go_wp2_with (go_at_call 31; (with_reducible refine (HK.out _ true HV.out R2.out).mono ?_); rintro e w2 ⟨rfl, hb2⟩)
        go_ret
        exact ⟨by rw [E2.out]; rfl, (box_below HB.out).trans (hb2.mono (box_below HB.out).size)⟩
      · have E2 : Hid (chkE ⟨log, next, seq, come, go⟩ = 21) := E.out.trans (if_neg hv)
        have HV := Lib.hid (decide_eq_false hv)
        clear hv E
        go_wp2_with (go_at_call 31; (with_reducible refine (HK.out _ false HV.out R2.out).mono ?_); rintro e w2 ⟨rfl, hb2⟩)
        go_ret
        exact ⟨by rw [E2.out]; rfl, (box_below HB.out).trans (hb2.mono (box_below HB.out).size)⟩
end Go.Proofs.YtkocekogkpemiaaDoor.Ed
