/-
  Trades as ticks (candle.Trades), walked. Conditions: as each theorem states.
-/
import Derived.Test.YtfgahmkfhlbogaaCaI
namespace Go.Proofs.Ytfgahmkfhlbogaa.Ca
open Go.RowKit Go.Shelf
open Go.Proofs.Ytfgahmkfhlbogaa Go.Proofs.Ytfgahmkfhlbogaa.Hx Go.Proofs.Ytfgahmkfhlbogaa.Rf

def tk (t : Trd) : Tk := ⟨t.price, t.size⟩
theorem infoTick : (Try.prog.info? 32).map (fun i => (i.zero, i.size, i.bytes)) = some (some (.agg #[.int .i64 0, .int .i64 0]), 2, 16) := by kernel_rfl
/-- k ticks of a row of n are laid -/
def MkT (W : World) (g n : Nat) (l : List Tk) : Prop :=
  ∃ C : Array Value, W.heap[g]? = some (.cells C 32 (0, 0)) ∧ C.size = n * 2 ∧ l.length ≤ n ∧ (∀ i (hi : i < l.length), C[i * 2]? = some (.int .i64 l[i].p) ∧ C[i * 2 + 1]? = some (.int .i64 l[i].s)) ∧ ∀ j, j < n * 2 → ∃ z, C[j]? = some (.int .i64 z)
theorem MkT.on {W W2 : World} {g n : Nat} {l : List Tk} (h : MkT W g n l) (hb : Below W.heap.size W W2) : MkT W2 g n l := by
  obtain ⟨C, h1, h2⟩ := h
  exact ⟨C, hp_on h1 hb, h2⟩
theorem MkT.cells {W : World} {g n : Nat} {l : List Tk} (h : MkT W g n l) (hk : l.length < n) : (∃ a b, W.cell? ⟨g, l.length * 2, none⟩ = some (.int .i64 a) ∧ W.cell? ⟨g, l.length * 2 + 1, none⟩ = some (.int .i64 b)) ∧ W.frozen? ⟨g, l.length * 2, none⟩ = false ∧ W.frozen? ⟨g, l.length * 2 + 1, none⟩ = false := by
  obtain ⟨C, h1, h2, h3, h4, h5⟩ := h
  obtain ⟨a, ha⟩ := h5 (l.length * 2) (by omega)
  obtain ⟨b, hb⟩ := h5 (l.length * 2 + 1) (by omega)
  exact ⟨⟨a, b, (cells_in h1 _ ha).1, (cells_in h1 _ hb).1⟩, (cells_in h1 _ ha).2, (cells_in h1 _ hb).2⟩
theorem MkT.put {W : World} {g n : Nat} {l : List Tk} (h : MkT W g n l) (hk : l.length < n) (t : Tk) : MkT ((W.setCell ⟨g, l.length * 2, none⟩ (.int .i64 t.p)).setCell ⟨g, l.length * 2 + 1, none⟩ (.int .i64 t.s)) g n (l ++ [t]) := by
  obtain ⟨C, h1, h2, h3, h4, h5⟩ := h
  refine ⟨(C.setIfInBounds (l.length * 2) (.int .i64 t.p)).setIfInBounds (l.length * 2 + 1) (.int .i64 t.s), heap_set (heap_set h1 _) _, by simp [h2], by simp; omega, fun i hi => ?_, fun j hj => ?_⟩
  · simp at hi
    by_cases e : i = l.length
    · subst e
      simp [Array.getElem?_setIfInBounds, h2]
      omega
    · have h6 := h4 i (by omega)
      have e1 : (l ++ [t])[i]'(by simp; omega) = l[i]'(by omega) := by rw [List.getElem_append_left]
      rw [e1]
      simp only [Array.getElem?_setIfInBounds]
      rw [if_neg (by omega), if_neg (by omega), if_neg (by omega), if_neg (by omega)]
      exact h6
  · simp only [Array.getElem?_setIfInBounds, Array.size_setIfInBounds, h2]
    by_cases e1 : l.length * 2 + 1 = j
    · rw [if_pos e1, if_pos (by omega)]; exact ⟨_, rfl⟩
    · rw [if_neg e1]
      by_cases e2 : l.length * 2 = j
      · rw [if_pos e2, if_pos (by omega)]; exact ⟨_, rfl⟩
      · rw [if_neg e2]; exact h5 j hj
theorem add0 (g n : Nat) : (⟨g, 0, none⟩ : Addr).add n = ⟨g, n, none⟩ := by
  unfold Addr.add
  by_cases h : n = 0
  · subst h; rfl
  · simp [h]
theorem MkT.row {W : World} {g n : Nat} {l : List Tk} (h : MkT W g n l) : KRow W (some ⟨g, 0, none⟩) l := fun _ => by
  obtain ⟨C, h1, h2, h3, h4, h5⟩ := h
  refine ⟨_, rfl, hp_lt h1, fun i hi => ?_⟩
  obtain ⟨a, b⟩ := h4 i hi
  exact ⟨by rw [add0]; exact (cells_in h1 _ a).1, by rw [Go.Deep.add_add, add0]; exact (cells_in h1 _ b).1⟩
theorem mk_start (w : World) (n : Nat) : MkT (w.alloc (.cells (madeCells #[.int .i64 0, .int .i64 0] (n * 2)) 32)) w.heap.size n [] := by
  refine ⟨_, heap_alloc_last w _, size_madeCells _ _, by simp, fun i hi => by simp at hi, fun j hj => ⟨0, ?_⟩⟩
  have hm : j % 2 = 0 ∨ j % 2 = 1 := by omega
  rcases hm with e | e <;> simp [madeCells, hj, e]
def TrJ (w : World) (l : List Trd) (i : Value) (wr : World) : Prop := ∃ k : Nat, k ≤ l.length ∧ i = .int .i64 k ∧ MkT wr w.heap.size l.length ((l.take k).map tk) ∧ Below w.heap.size w wr
set_option maxHeartbeats 1000000 in
theorem trades_any (A : Option Addr) (c : Nat) (l : List Trd) (hl : l.length ≤ 1000) (w : World) (R : TRow w A l) :
    Calls Try.prog 8 #[.slice A l.length c] w fun e w' => ∃ g, e = .returned (.slice (some ⟨g, 0, none⟩) l.length l.length) ∧ KRow w' (some ⟨g, 0, none⟩) (l.map tk) ∧ Below w.heap.size w w' := by
  have HR := Lib.hid R
  have hmk : ∀ W, (Instr.makeSlice 33 (.int .i64 (l.length : Int)) (.int .i64 (l.length : Int))).run Try.prog W = .ok (.slice (some ⟨W.heap.size, 0, none⟩) l.length l.length) (W.alloc (.cells (madeCells #[.int .i64 0, .int .i64 0] (l.length * 2)) 32)) := fun W => by
    obtain ⟨i0, hi, hz0, hz1, hz2⟩ := info_parts infoTick
    have hr := run_make (P := Try.prog) W 33 32 i0 _ Try.underlying33 hi hz0 .i64 .i64 l.length l.length (by omega) (Int.le_refl _) (by rw [hz2]; omega) (by omega)
    rw [hz1] at hr
    exact hr
  have M0 := Lib.hid (mk_start w l.length)
  have hlc : (l.length : Int) ≤ 1000 := by omega
  clear R
  go_enter Try.func8, Try.ntmps8
  go_wp2
  go_loopw [11] (fun i wr => TrJ w l i wr) (fun i _ => l.length - (intOf i).toNat)
  case atStart => exact ⟨0, by omega, rfl, by simpa using M0.out, (Below.refl _ w).alloc (Nat.le_refl _) _⟩
  case round =>
    clear M0 hmk
    obtain ⟨k, hk, rfl, hM, hb⟩ := hrel
    have HM := Lib.hid hM
    clear hM
    by_cases h1 : k < l.length
    · obtain ⟨a, rfl, hab, hcl⟩ := HR.out (by omega)
      have x := hcl k h1
      have hbl : (a.add (k * 4)).block < w.heap.size := by rw [block_add]; exact hab
      have HT : Hid ((l.take (k + 1)).map tk = (l.take k).map tk ++ [tk l[k]]) := by rw [Hid, List.take_succ_eq_append_getElem h1, List.map_append]; rfl
      have hlt : ((l.take k).map tk).length = k := by simp; omega
      clear hcl
      generalize l[k] = y at *
      generalize (l.take k).map tk = lt at *
      obtain ⟨mk, tk', pr, sz⟩ := y
      obtain ⟨c0, c1, c2, c3⟩ := x
      have x0 := (hb.cell (p := a.add (k * 4)) hbl).trans c0
      have x1 : wr.cell? ⟨(a.add (k * 4)).block, (a.add (k * 4)).off + 1, none⟩ = some (.int .u64 tk') := (hb.cell (p := (a.add (k * 4)).add 1) (by rw [block_add]; exact hbl)).trans c1
      have x2 : wr.cell? ⟨(a.add (k * 4)).block, (a.add (k * 4)).off + 2, none⟩ = some (.int .i64 pr) := (hb.cell (p := (a.add (k * 4)).add 2) (by rw [block_add]; exact hbl)).trans c2
      have x3 : wr.cell? ⟨(a.add (k * 4)).block, (a.add (k * 4)).off + 3, none⟩ = some (.int .i64 sz) := (hb.cell (p := (a.add (k * 4)).add 3) (by rw [block_add]; exact hbl)).trans c3
      obtain ⟨⟨za, zb, m0, m1⟩, g0, g1⟩ := HM.out.cells (by omega)
      rw [hlt] at m0 m1 g0 g1
      have hwz : w.heap.size < wr.heap.size := by
        obtain ⟨C, hC, _⟩ := HM.out
        exact hp_lt hC
      have HLT := Lib.hid hlt
      have hkI : (k : Int) < (l.length : Int) := by omega
      clear c0 c1 c2 c3 hlt
      go_wp2
      go_roundw
      case rel =>
        have h := (HM.out.put (by have := HLT.out; omega) ⟨pr, sz⟩)
        rw [HLT.out] at h
        refine ⟨k + 1, by omega, by go_num, ?_, ?_⟩
        · rw [HT.out]
          exact h.on ((Below.refl _ _).alloc (Nat.le_refl _) _)
        · exact ((hb.setCell (p := ⟨w.heap.size, k * 2, none⟩) (Nat.le_refl _) _).setCell (p := ⟨w.heap.size, k * 2 + 1, none⟩) (Nat.le_refl _) _).alloc (by simp; omega) _
      case measure => simp [intOf]; omega
    · obtain rfl : k = l.length := by omega
      rw [List.take_length] at HM
      go_wp2
      go_ret
      exact ⟨_, rfl, HM.out.row, hb⟩
end Go.Proofs.Ytfgahmkfhlbogaa.Ca
