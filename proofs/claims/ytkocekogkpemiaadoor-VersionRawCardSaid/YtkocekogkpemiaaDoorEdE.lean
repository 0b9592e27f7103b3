/-
  The Go text of edits, walked: lay, Bytes. Conditions: as each theorem states.
-/
import Derived.Test.YtkocekogkpemiaaDoorEdD
namespace Go.Proofs.YtkocekogkpemiaaDoor.Ed
open Go.RowKit
open Go.Proofs.YtkocekogkpemiaaDoor
open Vi Ba

/-- the batch's box and the builder, at one world -/
def ByAt (w : World) (o : Obj) (b : Nat) (s : List UInt8) (wr : World) : Prop := Below (w.heap.size + 1) (w.alloc o) wr ∧ Bd b b s wr ∧ w.heap.size + 1 ≤ b
theorem byAt_start {w w2 : World} {o : Obj} (h : Below (w.alloc o).heap.size (w.alloc o) w2) : ByAt w o w2.heap.size [] (w2.alloc (.cells #[.pointer none, .slice none 0 0] 98 (0, 0))) := by
  have hs := h.size
  simp at hs
  exact ⟨(h.mono (by simp)).alloc (by omega) _, bd_fresh w2, hs⟩
theorem byAt_below {w wr w2 : World} {o : Obj} {b : Nat} {s : List UInt8} (h : ByAt w o b s wr) (hb : Below wr.heap.size wr w2) : ByAt w o b s w2 :=
  ⟨h.1.trans (hb.mono (box_size h.1)), bd_below h.2.1 hb, h.2.2⟩
theorem byAt_write {w wr w2 : World} {o : Obj} {b : Nat} {s s2 : List UInt8} (h : ByAt w o b s wr) (hb : Below b wr w2) (hd : Bd b b s2 w2) : ByAt w o b s2 w2 :=
  ⟨h.1.trans (hb.mono h.2.2), hd, h.2.2⟩
theorem byAt_bd {w wr : World} {o : Obj} {b : Nat} {s : List UInt8} (h : ByAt w o b s wr) : Bd b b s wr := h.2.1
theorem byAt_num {w wr : World} {o : Obj} {b : Nat} {s : List UInt8} (h : ByAt w o b s wr) : w.heap.size < b ∧ b < wr.heap.size ∧ w.heap.size < wr.heap.size := by
  have := bd_lt h.2.1; have := h.2.2; omega
theorem text_vtx (s : ByteArray) (hs : s.size ≤ 1000000) (w : World) :
    Calls Tryd.prog 46 #[.string s] w fun e w' => e = .returned (.string (bs (vtx s))) ∧ Below w.heap.size w w' := text_any s hs w
theorem byAt_alloc {w wr : World} {o o2 : Obj} {b : Nat} {s : List UInt8} (h : ByAt w o b s wr) : ByAt w o b s (wr.alloc o2) := byAt_below h ((Below.refl _ _).alloc (Nat.le_refl _) _)
def NRow (W : World) (b : Nat) (l : List Nat) : Prop := b < W.heap.size ∧ ∀ i (hi : i < l.length), W.cell? ⟨b, i, none⟩ = some (.int .u64 (l[i] : Nat))
theorem add_flat (g k : Nat) : (⟨g, 0, none⟩ : Addr).add k = ⟨g, k, none⟩ := by unfold Addr.add; split <;> simp_all
theorem NRow.on {W W' : World} {b : Nat} {l : List Nat} (h : NRow W b l) (hb : Below W.heap.size W W') : NRow W' b l := by
  have := hb.size
  exact ⟨by have := h.1; omega, fun i hi => (hb.cell (p := ⟨b, i, none⟩) h.1).trans (h.2 i hi)⟩
theorem nrow_new (W : World) (l : List Nat) (t : TypeId) : NRow (W.alloc (.cells (l.map fun (n : Nat) => Value.int .u64 n).toArray t)) W.heap.size l := by
  refine ⟨by simp, fun i hi => ?_⟩
  rw [World.cell?_alloc_new]
  simp [hi]
theorem vn_on {l : List Nat} {j : Nat} (hj : j < l.length) : vn (l.take (j + 1)) = vn (l.take j) ++ vnum l[j] := by
  unfold vn; rw [List.take_succ_eq_append_getElem hj, List.flatMap_append]; simp
def LyRel (w : World) (l : List Nat) (vs vi : Value) (wr : World) : Prop := ∃ j : Nat, j ≤ l.length ∧ vi = .int .i64 (j : Nat) ∧ vs = .string (bs (vn (l.take j))) ∧ Below w.heap.size w wr
set_option maxHeartbeats 1000000 in
set_option maxRecDepth 100000 in
theorem elay_any {w : World} {b c : Nat} {l : List Nat} (R : NRow w b l) (hl : l.length ≤ 4) (hn : ∀ n ∈ l, n < 18446744073709551616) :
    Calls Tryd.prog 45 #[.slice (some ⟨b, 0, none⟩) l.length c] w (SPost w (vn l)) := by
  replace R := Lib.hid R
  have HN := Lib.hid hn
  clear hn
  go_enter Tryd.func45, Tryd.ntmps45
  go_wp2
  go_loopw [3, 8] (LyRel w l) (fun _ i _ => l.length - (intOf i).toNat)
  case atStart => exact ⟨0, by omega, rfl, by simp [vn, bs], Below.refl _ _⟩
  case round =>
    obtain ⟨j, hj, rfl, rfl, hb⟩ := hrel
    by_cases hlt : j < l.length
    · have x0 := (R.out.on hb).2 j hlt
      have hlt64 := HN.out l[j] (List.getElem_mem hlt)
      have hon := Lib.hid (vn_on hlt)
      have z1 : (bs (vn (l.take j))).size ≤ 40 := by
        have := vn_len (l := l.take j) fun n hn => HN.out n (List.mem_of_mem_take hn)
        rw [List.length_take] at this
        rw [bs_size]; omega
      have z2 : (bs (vnum l[j])).size ≤ 10 := by rw [bs_size]; exact vnum_len10 hlt64
      have HM := Lib.hid (num_any l[j] hlt64)
      have HB := Lib.hid hb
      clear hb
      generalize l[j] = y at *
      go_wp2_with (go_at_call 57; (with_reducible refine (HM.out _).mono ?_); rintro e w2 ⟨rfl, hb2⟩)
      go_roundw
      case rel => exact ⟨j + 1, by omega, by go_num, by rw [hon.out, bs_append], HB.out.trans (hb2.mono HB.out.size)⟩
      case measure => simp [intOf]; omega
    · have hj2 : j = l.length := by omega
      subst hj2
      rw [List.take_length]
      go_wp2
      go_ret
      exact ⟨rfl, hb⟩
theorem elay4 (W : World) (k : Nat) (hk : k = W.heap.size) (a b c d : Nat) (ha : a < 18446744073709551616) (hb : b < 18446744073709551616) (hc : c < 18446744073709551616) (hd : d < 18446744073709551616) :
    Calls Tryd.prog 45 #[.slice (some ⟨k, 0, none⟩) 4 4] (W.alloc (.cells #[.int .u64 a, .int .u64 b, .int .u64 c, .int .u64 d] 32)) (SPost (W.alloc (.cells #[.int .u64 a, .int .u64 b, .int .u64 c, .int .u64 d] 32)) (vn [a, b, c, d])) :=
  hk ▸ elay_any (l := [a, b, c, d]) (nrow_new W [a, b, c, d] _) (by simp) (fun n hn => by
    simp at hn
    rcases hn with rfl | rfl | rfl | rfl <;> assumption)
theorem elay2 (W : World) (k : Nat) (hk : k = W.heap.size) (a b : Nat) (ha : a < 18446744073709551616) (hb : b < 18446744073709551616) :
    Calls Tryd.prog 45 #[.slice (some ⟨k, 0, none⟩) 2 2] (W.alloc (.cells #[.int .u64 a, .int .u64 b] 32)) (SPost (W.alloc (.cells #[.int .u64 a, .int .u64 b] 32)) (vn [a, b])) :=
  hk ▸ elay_any (l := [a, b]) (nrow_new W [a, b] _) (by simp) (fun n hn => by
    simp at hn
    rcases hn with rfl | rfl <;> assumption)
theorem elay1 (W : World) (k : Nat) (hk : k = W.heap.size) (a : Nat) (ha : a < 18446744073709551616) :
    Calls Tryd.prog 45 #[.slice (some ⟨k, 0, none⟩) 1 1] (W.alloc (.cells #[.int .u64 a] 32)) (SPost (W.alloc (.cells #[.int .u64 a] 32)) (vn [a])) :=
  hk ▸ elay_any (l := [a]) (nrow_new W [a] _) (by simp) (fun n hn => by
    simp at hn
    subst hn; assumption)
theorem byAt_box5 {w wr : World} {x0 x1 x2 x3 x4 : Value} {t : TypeId} {b : Nat} {s : List UInt8} (h : ByAt w (.cells #[x0, x1, x2, x3, x4] t (0, 0)) b s wr) :
    wr.cell? ⟨w.heap.size, 0, none⟩ = some x0 ∧ wr.cell? ⟨w.heap.size, 1, none⟩ = some x1 ∧ wr.cell? ⟨w.heap.size, 2, none⟩ = some x2 ∧ wr.cell? ⟨w.heap.size, 3, none⟩ = some x3 ∧ wr.cell? ⟨w.heap.size, 4, none⟩ = some x4 := box5 h.1
theorem kept_at {b k0 : Nat} {t : TypeId} {w2 w4 : World} {c : Array Value} (ht : t ≠ 5) (hb : Kept b w2 w4) (hn : w2.heap[k0]? = some (.cells c t (0, 0))) (hk : b < k0) : w4.heap[k0]? = some (.cells c t (0, 0)) :=
  hb k0 _ hn (fun e => by injection e with e; omega) (fun c2 fz e => by injection e with _ e2; exact absurd e2 ht)
def EbPost (w : World) (r : List UInt8) (v : Int) (e : Ending) (w' : World) : Prop := e = .returned (.tuple #[.string (bs r), .int .i64 v]) ∧ Below w.heap.size w w'
theorem ebytes_bad {e : Edt} {A G : Option Addr} (c d : Nat) {w : World} (H : Lies w e A G) (hc : ¬ chkE e = 0) :
    Calls Tryd.prog 36 #[e.val A c G d] w (EbPost w [] (chkE e)) := by
  have HC := Lib.hid fun (W : World) (h : Lies W e A G) => checkE_any c d h
  have R1 := Lib.hid (H.on ((Below.refl _ _).alloc (Nat.le_refl _) (e.box A c G d)))
  have hc' : (chkE e == 0) = false := by simpa using hc
  have hc2 : (chkE e != 0) = true := by simp [bne, hc']
  clear H hc
  obtain ⟨log, next, seq, come, go⟩ := e
  unfold Edt.val Edt.box at *
  simp only at *
  generalize chkE ⟨log, next, seq, come, go⟩ = z at *
  go_enter Tryd.func36, Tryd.ntmps36
  go_wp2_with (go_at_call 20; (with_reducible refine (HC.out _ R1.out).mono ?_); rintro e w2 ⟨rfl, hb2⟩)
  go_ret2
  exact ⟨rfl, ((Below.refl _ _).alloc (Nat.le_refl _) _).trans (hb2.mono (by simp))⟩
end Go.Proofs.YtkocekogkpemiaaDoor.Ed
