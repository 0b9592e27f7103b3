/-
  The Go text of edits, walked: Same, Light. Conditions: as each theorem states.
-/
import Derived.Test.YtomokbcamfmfcaaDoorEdK
namespace Go.Proofs.YtomokbcamfmfcaaDoor.Ed
open Go.RowKit
open Go.Proofs.YtomokbcamfmfcaaDoor
open Vi Ba

theorem two_below {w w2 : World} {o1 o2 : Obj} (h : Below ((w.alloc o1).alloc o2).heap.size ((w.alloc o1).alloc o2) w2) : Below w.heap.size w w2 :=
  (((Below.refl _ _).alloc (Nat.le_refl _) _).alloc (by simp) _).trans (h.mono (by simp; omega))
theorem two_on (w : World) (o1 o2 : Obj) : Below w.heap.size w ((w.alloc o1).alloc o2) := ((Below.refl _ _).alloc (Nat.le_refl _) _).alloc (by simp) _
theorem alloc2_cells5 {w w2 : World} {x0 x1 x2 x3 x4 y0 y1 y2 y3 y4 : Value} {t : TypeId} (h : Below ((w.alloc (.cells #[x0, x1, x2, x3, x4] t (0, 0))).alloc (.cells #[y0, y1, y2, y3, y4] t (0, 0))).heap.size ((w.alloc (.cells #[x0, x1, x2, x3, x4] t (0, 0))).alloc (.cells #[y0, y1, y2, y3, y4] t (0, 0))) w2) :
    (w2.cell? ⟨w.heap.size, 0, none⟩ = some x0 ∧ w2.cell? ⟨w.heap.size, 1, none⟩ = some x1 ∧ w2.cell? ⟨w.heap.size, 2, none⟩ = some x2 ∧ w2.cell? ⟨w.heap.size, 3, none⟩ = some x3 ∧ w2.cell? ⟨w.heap.size, 4, none⟩ = some x4) ∧
    (w2.cell? ⟨w.heap.size + 1, 0, none⟩ = some y0 ∧ w2.cell? ⟨w.heap.size + 1, 1, none⟩ = some y1 ∧ w2.cell? ⟨w.heap.size + 1, 2, none⟩ = some y2 ∧ w2.cell? ⟨w.heap.size + 1, 3, none⟩ = some y3 ∧ w2.cell? ⟨w.heap.size + 1, 4, none⟩ = some y4) := by
  have h1 : w2.heap[w.heap.size]? = some (.cells #[x0, x1, x2, x3, x4] t (0, 0)) := by
    rw [h.block _ (by simp; omega), (((Below.refl _ _).alloc (Nat.le_refl _) _ : Below (w.alloc (.cells #[x0, x1, x2, x3, x4] t (0, 0))).heap.size _ ((w.alloc (.cells #[x0, x1, x2, x3, x4] t (0, 0))).alloc (.cells #[y0, y1, y2, y3, y4] t (0, 0))))).block _ (by simp)]
    exact heap_alloc_new _ _
  have h2 : w2.heap[w.heap.size + 1]? = some (.cells #[y0, y1, y2, y3, y4] t (0, 0)) := by
    rw [h.block _ (by simp)]
    have := heap_alloc_new (w.alloc (.cells #[x0, x1, x2, x3, x4] t (0, 0))) (.cells #[y0, y1, y2, y3, y4] t (0, 0))
    simpa using this
  exact ⟨(cells5 h1).1, (cells5 h2).1⟩
section
variable {w : World} {a b : Edt} {A A2 G G2 : Option Addr} {c c2 d d2 : Nat}
set_option maxHeartbeats 1000000 in
set_option maxRecDepth 100000 in
theorem same_yes (ha : Lies w a A G) (hb : Lies w a A2 G2) (h1 : a.come.length ≤ 100000) (h2 : a.go.length ≤ 100000) :
    Calls Tryd.prog 14 #[a.val A c G d, a.val A2 c2 G2 d2] w (BoPost w true) := by
  have HA := Lib.hid fun (W : World) (h : Below w.heap.size w W) => eqa_yes (c := c) (c2 := c2) h1 (ha.on h).a (hb.on h).a
  have HG := Lib.hid fun (W : World) (h : Below w.heap.size w W) => eqg_yes (c := d) (c2 := d2) h2 (ha.on h).g (hb.on h).g
  obtain ⟨log, next, seq, come, go⟩ := a
  clear ha hb
  unfold Edt.val
  simp only at *
  have hon := Lib.hid (two_on w)
  go_enter Tryd.func14, Tryd.ntmps14
  go_wp2_with (first
    | (go_at_call 34; (with_reducible refine (HA.out _ (hon.out _ _)).mono ?_); rintro e w2 ⟨rfl, hb2⟩; have B2 := Lib.hid (two_below hb2); obtain ⟨⟨x0, x1, x2, x3, x4⟩, y0, y1, y2, y3, y4⟩ := alloc2_cells5 hb2; clear hb2)
    | (go_at_call 35; (with_reducible refine (HG.out _ B2.out).mono ?_); rintro e w3 ⟨rfl, hb3⟩))
  go_ret
  exact ⟨rfl, B2.out.trans (hb3.mono B2.out.size)⟩
theorem edt_ne (h : a ≠ b) : a.log ≠ b.log ∨ (a.log = b.log ∧ a.next ≠ b.next) ∨ (a.log = b.log ∧ a.next = b.next ∧ a.seq ≠ b.seq) ∨ (a.log = b.log ∧ a.next = b.next ∧ a.seq = b.seq ∧ a.come ≠ b.come) ∨ (a.log = b.log ∧ a.next = b.next ∧ a.seq = b.seq ∧ a.come = b.come ∧ a.go ≠ b.go) := by
  obtain ⟨a1, a2, a3, a4, a5⟩ := a
  obtain ⟨b1, b2, b3, b4, b5⟩ := b
  simp only
  by_cases e1 : a1 = b1
  · by_cases e2 : a2 = b2
    · by_cases e3 : a3 = b3
      · by_cases e4 : a4 = b4
        · right; right; right; right
          refine ⟨e1, e2, e3, e4, fun e5 => h (by rw [e1, e2, e3, e4, e5])⟩
        · right; right; right; left; exact ⟨e1, e2, e3, e4⟩
      · right; right; left; exact ⟨e1, e2, e3⟩
    · right; left; exact ⟨e1, e2⟩
  · left; exact e1
set_option maxHeartbeats 1000000 in
set_option maxRecDepth 100000 in
theorem same_no (ha : Lies w a A G) (hb : Lies w b A2 G2) (h1 : a.come.length ≤ 100000) (h2 : a.go.length ≤ 100000) (h3 : b.come.length ≤ 100000) (h4 : b.go.length ≤ 100000) (h : a ≠ b) :
    Calls Tryd.prog 14 #[a.val A c G d, b.val A2 c2 G2 d2] w (BoPost w false) := by
  have hway := edt_ne h
  obtain ⟨log, next, seq, come, go⟩ := a
  obtain ⟨log2, next2, seq2, come2, go2⟩ := b
  unfold Edt.val
  simp only at *
  rcases hway with e | ⟨rfl, e⟩ | ⟨rfl, rfl, e⟩ | ⟨rfl, rfl, rfl, e⟩ | ⟨rfl, rfl, rfl, rfl, e⟩
  · have e1 : ((log : Int) == (log2 : Int)) = false := by simp; omega
    clear ha hb h
    go_enter Tryd.func14, Tryd.ntmps14
    go_wp2
    go_ret
    exact ⟨rfl, two_on _ _ _⟩
  · have e1 : ((next : Int) == (next2 : Int)) = false := by simp; omega
    clear ha hb h
    go_enter Tryd.func14, Tryd.ntmps14
    go_wp2
    go_ret
    exact ⟨rfl, two_on _ _ _⟩
  · have e1 : ((seq : Int) == (seq2 : Int)) = false := by simp; omega
    clear ha hb h
    go_enter Tryd.func14, Tryd.ntmps14
    go_wp2
    go_ret
    exact ⟨rfl, two_on _ _ _⟩
  · have HA := Lib.hid fun (W : World) (h : Below w.heap.size w W) => eqa_no (c := c) (c2 := c2) h1 h3 (ha.on h).a (hb.on h).a e
    have hon := Lib.hid (two_on w)
    clear ha hb h e
    go_enter Tryd.func14, Tryd.ntmps14
    go_wp2_with (first
      | (go_at_call 34; (with_reducible refine (HA.out _ (hon.out _ _)).mono ?_); rintro e w2 ⟨rfl, hb2⟩; have B2 := Lib.hid (two_below hb2); obtain ⟨⟨x0, x1, x2, x3, x4⟩, y0, y1, y2, y3, y4⟩ := alloc2_cells5 hb2; clear hb2))
    go_ret
    exact ⟨rfl, B2.out⟩
  · have HA := Lib.hid fun (W : World) (h : Below w.heap.size w W) => eqa_yes (c := c) (c2 := c2) h1 (ha.on h).a (hb.on h).a
    have HG := Lib.hid fun (W : World) (h : Below w.heap.size w W) => eqg_no (c := d) (c2 := d2) h2 h4 (ha.on h).g (hb.on h).g e
    have hon := Lib.hid (two_on w)
    clear ha hb h e
    go_enter Tryd.func14, Tryd.ntmps14
    go_wp2_with (first
      | (go_at_call 34; (with_reducible refine (HA.out _ (hon.out _ _)).mono ?_); rintro e w2 ⟨rfl, hb2⟩; have B2 := Lib.hid (two_below hb2); obtain ⟨⟨x0, x1, x2, x3, x4⟩, y0, y1, y2, y3, y4⟩ := alloc2_cells5 hb2; clear hb2)
      | (go_at_call 35; (with_reducible refine (HG.out _ B2.out).mono ?_); rintro e w3 ⟨rfl, hb3⟩))
    go_ret
    exact ⟨rfl, B2.out.trans (hb3.mono B2.out.size)⟩
end
def okF (a : Fil) : Prop := a.least.size ≤ 300 ∧ a.most.size ≤ 300
def okE (e : Edt) : Prop := (∀ a ∈ e.come, okF a) ∧ e.come.length ≤ 210 ∧ e.go.length ≤ 210
theorem first_bad {l : List Fil} (h : ¬ ∀ a ∈ l, okF a) : ∃ k, ∃ hk : k < l.length, ¬ okF l[k] ∧ ∀ i (hi : i < l.length), i < k → okF l[i] := by
  induction l with
  | nil => exact absurd (fun s hs => by cases hs) h
  | cons x l ih =>
    by_cases hx : okF x
    · obtain ⟨k, hk, h1, h2⟩ := ih (fun h' => h (fun s hs => by
        rcases List.mem_cons.1 hs with rfl | hs
        · exact hx
        · exact h' s hs))
      refine ⟨k + 1, by simp; omega, by simpa using h1, fun i hi hlt => ?_⟩
      match i with
      | 0 => simpa using hx
      | i + 1 => simpa using h2 i (by simpa using hi) (by omega)
    · exact ⟨0, by simp, by simpa using hx, fun i hi hlt => by omega⟩
def LlRel (w : World) (o : Obj) (k : Nat) (i : Value) (wr : World) : Prop := ∃ j : Nat, j ≤ k ∧ i = .int .i64 (j : Nat) ∧ Below (w.heap.size + 1) (w.alloc o) wr
set_option maxHeartbeats 1000000 in
set_option maxRecDepth 100000 in
theorem light_all {w : World} {e : Edt} {A G : Option Addr} (c d : Nat) (H : Lies w e A G) (h : ∀ a ∈ e.come, okF a) :
    Calls Tryd.prog 11 #[e.val A c G d] w (BoPost w (decide (e.come.length ≤ 210 ∧ e.go.length ≤ 210))) := by
  obtain ⟨log, next, seq, come, go⟩ := e
  obtain ⟨RA, _, _, la, lg⟩ := H
  unfold Edt.val
  simp only at *
  replace RA := Lib.hid RA
  have HO := Lib.hid h
  clear h
  go_enter Tryd.func11, Tryd.ntmps11
  go_wp2
  go_loopw [8] (LlRel w (.cells #[.int .u64 log, .int .u64 next, .int .u64 seq, .slice A come.length c, .slice G go.length d] 31 (0, 0)) come.length) (fun i _ => come.length - (intOf i).toNat)
  case atStart => exact ⟨0, by omega, rfl, Below.refl _ _⟩
  case round =>
    obtain ⟨j, hj, rfl, hb⟩ := hrel
    by_cases hlt : j < come.length
    · obtain ⟨a, rfl, hab, hca⟩ := RA.out (by omega)
      have hbl : (a.add (j * 6)).block < w.heap.size := by rw [block_add]; exact hab
      obtain ⟨x0, x1, x2, x3, x4, x5⟩ := (hca j hlt).on hbl (box_below hb)
      obtain ⟨o1, o2⟩ := HO.out come[j] (List.getElem_mem hlt)
      clear hca
      generalize come[j] = y at *
      go_wp2
      go_roundw
      case rel => exact ⟨j + 1, by omega, by go_num, hb.alloc (box_size hb) _⟩
      case measure => simp [intOf]; omega
    · obtain ⟨b0, b1, b2, b3, b4⟩ := box5 hb
      have HB := Lib.hid (box_below hb)
      clear hb
      by_cases h1 : come.length ≤ 210
      · by_cases h2 : go.length ≤ 210
        · have E := Lib.hid (decide_eq_true (⟨h1, h2⟩ : come.length ≤ 210 ∧ go.length ≤ 210))
          have e2 : decide ((go.length : Int) ≤ 210) = true := decide_eq_true (by omega)
          go_wp2
          go_ret
          exact ⟨by rw [E.out]; rfl, HB.out⟩
        · have E := Lib.hid (decide_eq_false (fun h => h2 h.2 : ¬ (come.length ≤ 210 ∧ go.length ≤ 210)))
          have e2 : decide ((go.length : Int) ≤ 210) = false := decide_eq_false (by omega)
          go_wp2
          go_ret
          exact ⟨by rw [E.out]; rfl, HB.out⟩
      · have E := Lib.hid (decide_eq_false (fun h => h1 h.1 : ¬ (come.length ≤ 210 ∧ go.length ≤ 210)))
        have e2 : decide ((come.length : Int) ≤ 210) = false := decide_eq_false (by omega)
        go_wp2
        go_ret
        exact ⟨by rw [E.out]; rfl, HB.out⟩
set_option maxHeartbeats 1000000 in
set_option maxRecDepth 100000 in
theorem light_bad {w : World} {e : Edt} {A G : Option Addr} (c d : Nat) (H : Lies w e A G) (h : ¬ ∀ a ∈ e.come, okF a) :
    Calls Tryd.prog 11 #[e.val A c G d] w (BoPost w false) := by
  obtain ⟨log, next, seq, come, go⟩ := e
  replace h : ¬ ∀ a ∈ come, okF a := h
  obtain ⟨k, hk, hbad, hgood⟩ := first_bad h
  obtain ⟨RA, _, ⟨_, _, _, oa, _⟩, la, lg⟩ := H
  unfold Edt.val
  simp only at *
  replace RA := Lib.hid RA
  have HO := Lib.hid (And.intro hbad (And.intro hgood oa))
  clear h hbad hgood oa
  go_enter Tryd.func11, Tryd.ntmps11
  go_wp2
  go_loopw [8] (LlRel w (.cells #[.int .u64 log, .int .u64 next, .int .u64 seq, .slice A come.length c, .slice G go.length d] 31 (0, 0)) k) (fun i _ => come.length - (intOf i).toNat)
  case atStart => exact ⟨0, by omega, rfl, Below.refl _ _⟩
  case round =>
    obtain ⟨j, hj, rfl, hb⟩ := hrel
    obtain ⟨a, rfl, hab, hca⟩ := RA.out (by omega)
    have hjl : j < come.length := by omega
    have hbl : (a.add (j * 6)).block < w.heap.size := by rw [block_add]; exact hab
    obtain ⟨x0, x1, x2, x3, x4, x5⟩ := (hca j hjl).on hbl (box_below hb)
    clear hca
    by_cases hlt : j < k
    · obtain ⟨o1, o2⟩ := HO.out.2.1 j hjl hlt
      generalize come[j] = y at *
      go_wp2
      go_roundw
      case rel => exact ⟨j + 1, by omega, by go_num, hb.alloc (box_size hb) _⟩
      case measure => simp [intOf]; omega
    · obtain rfl : j = k := by omega
      have hbd := HO.out.1
      obtain ⟨_, _, _, _, _, z1, z2⟩ := HO.out.2.2 _ (List.getElem_mem hk)
      unfold okF at hbd
      have hbd' : 300 < come[j].least.size ∨ (come[j].least.size ≤ 300 ∧ 300 < come[j].most.size) := by omega
      clear hbd
      generalize come[j] = y at *
      rcases hbd' with o1 | ⟨o1, o2⟩
      all_goals
        go_wp2
        go_ret
        exact ⟨rfl, (box_below hb).alloc (box_below hb).size _⟩
end Go.Proofs.YtomokbcamfmfcaaDoor.Ed
