/-
  The waves of trades (season's Trades), walked. Conditions: as each theorem states.
-/
import Derived.Test.YtmecpbgjienidaaSeE
import Derived.Test.YtmecpbgjienidaaTrd
import Derived.Deep.OwnRows
namespace Go.Proofs.Ytmecpbgjienidaa
open Go.RowKit
open Se Fl
attribute [local go_sem] run_store_float run_store_complex

def sizesOf (l : List Trd) : List Int := l.map Trd.size
theorem infoI64 : (Try.prog.info? 2).map (fun i => (i.zero, i.size, i.bytes)) = some (some (.int .i64 0), 1, 8) := by kernel_rfl
def szTo (l : List Trd) (k : Nat) : Nat → Value := fun j => if j < k then .int .i64 ((sizesOf l).getD j 0) else .int .i64 0
theorem szTo_set (l : List Trd) (k : Nat) (x : Int) (hx : x = (sizesOf l).getD k 0) : (fun j => if j = k then Value.int .i64 x else szTo l k j) = szTo l (k + 1) := by
  funext j
  subst hx
  unfold szTo
  by_cases h : j = k
  · subst h; simp
  · have : (j < k + 1) ↔ (j < k) := by omega
    simp only [h, this, if_false]
theorem nrow_row {w : World} {b : Nat} {t : TypeId} {l : List Int} (h : w.rowIs b t l.length (fun j => .int .i64 (l.getD j 0))) : NRow w (some ⟨b, 0, none⟩) l := fun h0 => by
  refine ⟨_, rfl, h.lt, fun i hi => ?_⟩
  have hc := h.cell hi
  rw [List.getD_eq_getElem?_getD, List.getElem?_eq_getElem hi] at hc
  rw [show (⟨b, 0, none⟩ : Addr).add i = ⟨b, i, none⟩ by unfold Addr.add; split <;> simp_all]
  exact hc
def TsJ (l : List Trd) (w : World) (k : Nat) (wr : World) : Prop := Below w.heap.size w wr ∧ B4 wr w.heap.size fz ∧ wr.rowIs (w.heap.size + 1) 2 l.length (szTo l k)
set_option maxHeartbeats 1000000 in
theorem trades_any (A : Option Addr) (c : Nat) (l : List Trd) (hl : l.length ≤ 100) (hall : ∀ p ∈ l, p.ok) (w : World) (RA : TRow w A l) :
    Calls Try.prog 14 #[.slice A l.length c] w (OfQ (sizesOf l) w) := by
  have HR := Lib.hid RA
  have HA := Lib.hid hall
  clear RA hall
  have hmk := run_make_row' (P := Try.prog) 22 2 (.int .i64 0) 8 Try.underlying22 infoI64 rfl .i64 .i64 l.length (by omega) (by omega)
  go_enter Try.func14, Try.ntmps14
  go_wp2
  clear hmk
  go_loopw [12] (fun i wr => ∃ k : Nat, k ≤ l.length ∧ i = .int .i64 k ∧ TsJ l w k wr) (fun i _ => l.length - (intOf i).toNat)
  case atStart =>
    refine ⟨0, by omega, rfl, ((Below.refl _ w).alloc (Nat.le_refl _) _).alloc (by simp) _, ?_, ?_⟩
    · have h := B4.new w fz 26
      exact B4.below h ((Below.refl (w.heap.size + 1) _).alloc (by simp) _) (by omega)
    · have h := World.rowIs_made (w.alloc (.cells #[fz 0, fz 1, fz 2, fz 3] 26)) (.int .i64 0) l.length 2
      rw [show (w.alloc (.cells #[fz 0, fz 1, fz 2, fz 3] 26)).heap.size = w.heap.size + 1 by simp] at h
      exact h.congr (fun j hj => by unfold szTo; simp)
  case round =>
    obtain ⟨k, hk, rfl, hb, hb1, hrow⟩ := hrel
    have H1 := Lib.hid hb1
    have H2 := Lib.hid hrow
    clear hb1 hrow
    by_cases h1 : k < l.length
    · obtain ⟨a, rfl, hab, hc⟩ := HR.out (by omega)
      obtain ⟨c0, c1, c2, c3⟩ := hc k h1
      have kk : ∀ p : Addr, p.block = a.block → wr.cell? p = w.cell? p := fun p hp => hb.cell (p := p) (by rw [hp]; exact hab)
      have hqb : (a.add (k * 4)).block = a.block := block_add _ _
      have x0 := (kk _ hqb).trans c0
      have x1 : wr.cell? ⟨(a.add (k * 4)).block, (a.add (k * 4)).off + 1, none⟩ = some (.int .u64 (l[k]).taker) := (kk _ (by exact hqb)).trans c1
      have x2 : wr.cell? ⟨(a.add (k * 4)).block, (a.add (k * 4)).off + 2, none⟩ = some (.int .i64 (l[k]).price) := (kk _ (by exact hqb)).trans c2
      have x3 : wr.cell? ⟨(a.add (k * 4)).block, (a.add (k * 4)).off + 3, none⟩ = some (.int .i64 (l[k]).size) := (kk _ (by exact hqb)).trans c3
      have hg : (l[k]).size = (sizesOf l).getD k 0 := by unfold sizesOf; rw [List.getD_eq_getElem?_getD, List.getElem?_map, List.getElem?_eq_getElem h1]; rfl
      have hrc := H2.out.cell h1
      have hrf := H2.out.frozen k
      have hzz := H2.out.lt
      have hS : Hid (∀ W : World, W.rowIs (w.heap.size + 1) 2 l.length (szTo l k) → (W.setCell ⟨w.heap.size + 1, k, none⟩ (.int .i64 (l[k]).size)).rowIs (w.heap.size + 1) 2 l.length (szTo l (k + 1))) := fun W h => by
        rw [← szTo_set l k _ hg]; exact h.set k _
      clear hc c0 c1 c2 c3 kk hqb hg
      generalize l[k] = x at *
      obtain ⟨mk, tk, pr, sz⟩ := x
      go_wp2
      have hsz := hb.size
      refine ⟨⟨k + 1, by omega, by go_num, (hb.setCell (by simp) _).alloc (by simpa using hsz) _, ?_, (hS.out _ H2.out).alloc _⟩, by simp [intOf]; omega⟩
      exact (H1.out.other (by omega) _).below ((Below.refl (w.heap.size + 1) _).alloc (by simp; omega) _) (by omega)
    · obtain rfl : k = l.length := by omega
      have hll : (sizesOf l).length = l.length := by unfold sizesOf; simp
      have hra : ∀ p ∈ sizesOf l, rg p := fun p hp => by
        unfold sizesOf at hp
        obtain ⟨x, hx, rfl⟩ := List.mem_map.1 hp
        exact (HA.out x hx).2
      have hnr : NRow wr (some ⟨w.heap.size + 1, 0, none⟩) (sizesOf l) := nrow_row (t := 2) (by
        rw [hll]; exact H2.out.congr (fun j hj => by unfold szTo; rw [if_pos hj]))
      obtain ⟨z0, y0⟩ := H1.out.2 0 (by decide)
      obtain ⟨z1, y1⟩ := H1.out.2 1 (by decide)
      obtain ⟨z2, y2⟩ := H1.out.2 2 (by decide)
      obtain ⟨z3, y3⟩ := H1.out.2 3 (by decide)
      have hz := H1.out.1
      by_cases ht : tot (sizesOf l) (sizesOf l).length ≤ 1125899906842624
      · have cO := of_yes (some ⟨w.heap.size + 1, 0, none⟩) l.length (sizesOf l) (by omega) hra ht wr hnr
        rw [hll] at cO
        have CO := Lib.hid cO
        have HT := Lib.hid ht
        clear cO hnr hra ht hll
        go_wp2_with (go_at_call 7; (with_reducible refine CO.out.mono ?_); rintro e w2 ⟨g, rfl, hg, hb'⟩; have HG := Lib.hid hg; clear hg; have B1 := H1.out.below hb' hz; obtain ⟨z0, y0⟩ := B1.2 0 (by decide); obtain ⟨z1, y1⟩ := B1.2 1 (by decide); obtain ⟨z2, y2⟩ := B1.2 2 (by decide); obtain ⟨z3, y3⟩ := B1.2 3 (by decide); have HB1 := Lib.hid B1; clear B1)
        refine bodyPost_ret (v := .tuple #[wv g, .bool true]) ?_ rfl ⟨?_, g, by rw [decide_eq_true HT.out], fun _ => HG.out, fun h => absurd HT.out h⟩
        · simp [results, Try.results14, go_sem, z0, z1, z2, z3]; rfl
        · have hbb := hb.trans (hb'.mono hb.size)
          exact (((hbb.setCell (by simp) _).setCell (by simp) _).setCell (by simp) _).setCell (by simp) _
      · have cO := of_no (some ⟨w.heap.size + 1, 0, none⟩) l.length (sizesOf l) (by omega) hra ht wr hnr
        rw [hll] at cO
        have CO := Lib.hid cO
        have HT := Lib.hid ht
        clear cO hnr hra ht hll
        go_wp2_with (go_at_call 7; (with_reducible refine CO.out.mono ?_); rintro e w2 ⟨rfl, hb'⟩; have B1 := H1.out.below hb' hz; obtain ⟨z0, y0⟩ := B1.2 0 (by decide); obtain ⟨z1, y1⟩ := B1.2 1 (by decide); obtain ⟨z2, y2⟩ := B1.2 2 (by decide); obtain ⟨z3, y3⟩ := B1.2 3 (by decide); have HB1 := Lib.hid B1; clear B1)
        refine bodyPost_ret (v := .tuple #[wv (fun _ => c0), .bool false]) ?_ rfl ⟨?_, _, by rw [decide_eq_false HT.out], fun h => absurd h HT.out, fun _ => rfl⟩
        · simp [results, Try.results14, go_sem, z0, z1, z2, z3]; rfl
        · have hbb := hb.trans (hb'.mono hb.size)
          exact (((hbb.setCell (by simp) _).setCell (by simp) _).setCell (by simp) _).setCell (by simp) _
end Go.Proofs.Ytmecpbgjienidaa
