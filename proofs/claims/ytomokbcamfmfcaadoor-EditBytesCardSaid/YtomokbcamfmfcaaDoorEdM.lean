/-
  The law EditBack walked. Conditions: as each theorem states.
-/
import Derived.Test.YtomokbcamfmfcaaDoorEdL
namespace Go.Proofs.YtomokbcamfmfcaaDoor.Ed
open Go.RowKit
open Go.Proofs.YtomokbcamfmfcaaDoor
open Vi Ba

abbrev eObj (l n s : Nat) (va vg : Value) : Obj := .cells #[.int .u64 l, .int .u64 n, .int .u64 s, va, vg] 31 (0, 0)
theorem light_yes {w : World} {e : Edt} {A G : Option Addr} (c d : Nat) (H : Lies w e A G) (h : okE e) : Calls Tryd.prog 11 #[e.val A c G d] w (BoPost w true) := by
  have := light_all c d H h.1
  rw [decide_eq_true h.2] at this
  exact this
theorem light_no {w : World} {e : Edt} {A G : Option Addr} (c d : Nat) (H : Lies w e A G) (h : ¬ okE e) : Calls Tryd.prog 11 #[e.val A c G d] w (BoPost w false) := by
  by_cases h1 : ∀ a ∈ e.come, okF a
  · have := light_all c d H h1
    rw [decide_eq_false (fun h2 => h ⟨h1, h2⟩)] at this
    exact this
  · exact light_bad c d H h1
def PrPost (w : World) (x : Edt) (err : Int) (e : Ending) (w' : World) : Prop := ∃ A c G d, e = .returned (.tuple #[x.val A c G d, .int .i64 err]) ∧ Lies w' x A G ∧ Below w.heap.size w w'
theorem parse_at (s : ByteArray) (hs : s.size ≤ 1000000) {x : Edt} {err : Int} (h : parse s.data.toList = (x, err)) (w : World) : Calls Tryd.prog 13 #[.string s] w (PrPost w x err) := by
  have := eparse_any s hs w
  unfold EpPost at this
  rw [h] at this
  exact this
theorem parse_ways (L : List UInt8) : ∃ (x : Edt) (err : Int), parse L = (x, err) ∧ chkE x = 0 ∧ ((err = 0 ∧ eb x = L) ∨ ((err == 0) = false ∧ x = Edt.none)) := by
  obtain ⟨⟨x, err⟩, hp⟩ : ∃ r, parse L = r := ⟨_, rfl⟩
  by_cases he : err = 0
  · subst he
    obtain ⟨h1, h2⟩ := eb_parse (L := L) (by rw [hp])
    rw [hp] at h1 h2
    exact ⟨x, 0, hp, h2, .inl ⟨rfl, h1⟩⟩
  · have h1 := parse_bad (L := L) (by rw [hp]; exact he)
    rw [hp] at h1
    simp only at h1
    subst h1
    exact ⟨Edt.none, err, hp, by decide, .inr ⟨by simpa using he, rfl⟩⟩
theorem eb_len {e : Edt} (ho : e.ok) (h : chkE e = 0) : (eb e).length ≤ 100000 := by
  obtain ⟨k1, k2, k3, k4⟩ := chkE_ok.1 h
  have := toG_len (log := e.log) (next := e.next) (seq := e.seq) (come := e.come) (go := e.go) ho.log ho.next ho.seq k1 ho.come k3 k2 ho.go k4 e.go.length
  rw [toG_all] at this
  exact this
theorem eb_inj {a b : Edt} (ha : a.ok) (hb : b.ok) (h1 : chkE a = 0) (h2 : chkE b = 0) (h : eb a = eb b) : a = b := by
  have e1 := parse_eb ha h1
  have e2 := parse_eb hb h2
  rw [h, e2] at e1
  injection e1 with e1 _
  exact e1.symm
/-- two boxes and what was there -/
abbrev Two (w : World) (oa ob : Obj) : World := (w.alloc oa).alloc ob
theorem two_trans {w w1 w2 : World} {oa ob : Obj} (h : Below (Two w oa ob).heap.size (Two w oa ob) w1) (h2 : Below w1.heap.size w1 w2) : Below (Two w oa ob).heap.size (Two w oa ob) w2 := h.trans (h2.mono h.size)
theorem two_alloc {w w1 : World} {oa ob : Obj} (h : Below (Two w oa ob).heap.size (Two w oa ob) w1) (o : Obj) : Below (Two w oa ob).heap.size (Two w oa ob) (w1.alloc o) := h.alloc h.size _
theorem box_on {W W' : World} {x0 x1 x2 x3 x4 : Value} {t : TypeId} (h : Below (W.alloc (.cells #[x0, x1, x2, x3, x4] t (0, 0))).heap.size (W.alloc (.cells #[x0, x1, x2, x3, x4] t (0, 0))) W') :
    W'.cell? ⟨W.heap.size, 0, none⟩ = some x0 ∧ W'.cell? ⟨W.heap.size, 1, none⟩ = some x1 ∧ W'.cell? ⟨W.heap.size, 2, none⟩ = some x2 ∧ W'.cell? ⟨W.heap.size, 3, none⟩ = some x3 ∧ W'.cell? ⟨W.heap.size, 4, none⟩ = some x4 := box5 (h.mono (by simp))
theorem lies_alloc {W : World} {e : Edt} {A G : Option Addr} (h : Lies W e A G) (o : Obj) : Lies (W.alloc o) e A G := h.on ((Below.refl _ _).alloc (Nat.le_refl _) _)
theorem heavy_one {w : World} {a b : Edt} {A A2 G G2 : Option Addr} {c c2 d d2 : Nat} {s : ByteArray} (ha : Lies w a A G) (hb : Lies w b A2 G2) (ht : Tab w) (hs : s.size ≤ 9223372036854775807) (h : ¬ (okE a ∧ okE b ∧ s.size ≤ 5000)) :
    Calls Tryd.prog 4 #[a.val A c G d, b.val A2 c2 G2 d2, .string s] w (BoPost w true) := by
  have AW := Lib.hid fun (W : World) (h : Below w.heap.size w W) => awake_any W (ht.on h)
  by_cases h1 : okE a
  · have LA := Lib.hid fun (W : World) (h : Below w.heap.size w W) => light_yes c d (ha.on h) h1
    by_cases h2 : okE b
    · have LB := Lib.hid fun (W : World) (h : Below w.heap.size w W) => light_yes c2 d2 (hb.on h) h2
      have h3 : 5000 < s.size := Classical.byContradiction fun h3 => h ⟨h1, h2, by omega⟩
      have e3 : decide (5000 < (s.size : Int)) = true := decide_eq_true (by omega)
      clear ha hb ht h
      obtain ⟨al, an, aq, ac, ag⟩ := a
      obtain ⟨bl, bn, bq, bc, bg⟩ := b
      unfold Edt.val at *
      simp only at *
      have hon := Lib.hid (two_on w)
      go_enter Tryd.func4, Tryd.ntmps4
      go_wp2_with (first
        | (go_at_call 6; (with_reducible refine (AW.out _ (hon.out _ _)).mono ?_); rintro e w1 ⟨rfl, b1⟩; have F1 := Lib.hid b1; obtain ⟨⟨a0, a1, a2, a3, a4⟩, a5, a6, a7, a8, a9⟩ := alloc2_cells5 b1; clear b1)
        | (go_at_call 11; (with_reducible refine (LA.out _ (two_below F1.out)).mono ?_); rintro e w2 ⟨rfl, b2⟩; have F2 := Lib.hid (two_trans F1.out b2); obtain ⟨⟨c0, c1, c2', c3, c4⟩, c5, c6, c7, c8, c9⟩ := alloc2_cells5 F2.out; clear b2)
        | (go_at_call 11; have Z := F2; (with_reducible refine (LB.out _ (two_below F2.out)).mono ?_); rintro e w3 ⟨rfl, b3⟩; have F3 := Lib.hid (two_trans F2.out b3); obtain ⟨⟨d0, d1, d2', d3, d4⟩, d5, d6, d7, d8, d9⟩ := alloc2_cells5 F3.out; clear b3))
      go_ret
      exact ⟨rfl, two_below F3.out⟩
    · have LB := Lib.hid fun (W : World) (h : Below w.heap.size w W) => light_no c2 d2 (hb.on h) h2
      clear ha hb ht h
      obtain ⟨al, an, aq, ac, ag⟩ := a
      obtain ⟨bl, bn, bq, bc, bg⟩ := b
      unfold Edt.val at *
      simp only at *
      have hon := Lib.hid (two_on w)
      go_enter Tryd.func4, Tryd.ntmps4
      go_wp2_with (first
        | (go_at_call 6; (with_reducible refine (AW.out _ (hon.out _ _)).mono ?_); rintro e w1 ⟨rfl, b1⟩; have F1 := Lib.hid b1; obtain ⟨⟨a0, a1, a2, a3, a4⟩, a5, a6, a7, a8, a9⟩ := alloc2_cells5 b1; clear b1)
        | (go_at_call 11; (with_reducible refine (LA.out _ (two_below F1.out)).mono ?_); rintro e w2 ⟨rfl, b2⟩; have F2 := Lib.hid (two_trans F1.out b2); obtain ⟨⟨c0, c1, c2', c3, c4⟩, c5, c6, c7, c8, c9⟩ := alloc2_cells5 F2.out; clear b2)
        | (go_at_call 11; have Z := F2; (with_reducible refine (LB.out _ (two_below F2.out)).mono ?_); rintro e w3 ⟨rfl, b3⟩; have F3 := Lib.hid (two_trans F2.out b3); obtain ⟨⟨d0, d1, d2', d3, d4⟩, d5, d6, d7, d8, d9⟩ := alloc2_cells5 F3.out; clear b3))
      go_ret
      exact ⟨rfl, two_below F3.out⟩
  · have LA := Lib.hid fun (W : World) (h : Below w.heap.size w W) => light_no c d (ha.on h) h1
    clear ha hb ht h
    obtain ⟨al, an, aq, ac, ag⟩ := a
    obtain ⟨bl, bn, bq, bc, bg⟩ := b
    unfold Edt.val at *
    simp only at *
    have hon := Lib.hid (two_on w)
    go_enter Tryd.func4, Tryd.ntmps4
    go_wp2_with (first
      | (go_at_call 6; (with_reducible refine (AW.out _ (hon.out _ _)).mono ?_); rintro e w1 ⟨rfl, b1⟩; have F1 := Lib.hid b1; obtain ⟨⟨a0, a1, a2, a3, a4⟩, a5, a6, a7, a8, a9⟩ := alloc2_cells5 b1; clear b1)
      | (go_at_call 11; (with_reducible refine (LA.out _ (two_below F1.out)).mono ?_); rintro e w2 ⟨rfl, b2⟩; have F2 := Lib.hid (two_trans F1.out b2); obtain ⟨⟨c0, c1, c2', c3, c4⟩, c5, c6, c7, c8, c9⟩ := alloc2_cells5 F2.out; clear b2))
    go_ret
    exact ⟨rfl, two_below F2.out⟩
end Go.Proofs.YtomokbcamfmfcaaDoor.Ed
