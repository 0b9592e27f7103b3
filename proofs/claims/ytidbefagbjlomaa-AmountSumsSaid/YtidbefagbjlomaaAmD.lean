/-
  Sums of rows, walked: the program's and the document's; an argument that is a row of numbers, opened. Conditions: as each theorem states.
-/
import Derived.Test.YtidbefagbjlomaaAmB
import Derived.Test.YtidbefagbjlomaaAmC
import Derived.Deep.SlicePairs
namespace Go.Proofs.Ytidbefagbjlomaa
open Go.ChangeShapes Go.WideShapes Go.ChangeAt Go.RowKit
open Am

theorem block_add (a : Addr) (n : Nat) : (a.add n).block = a.block := by unfold Addr.add; split <;> rfl
theorem cell_lt {w : World} {p : Addr} {v : Value} (h : w.cell? p = some v) : p.block < w.heap.size := by
  rcases Nat.lt_or_ge p.block w.heap.size with h' | h'
  · exact h'
  · unfold World.cell? at h
    rw [Array.getElem?_eq_none h'] at h
    simp at h
theorem cellsI64 : Try.prog.cellsOf 2 = 1 := by kernel_rfl
def NRow (W : World) (ao : Option Addr) (l : List Int) : Prop := 0 < l.length → ∃ a, ao = some a ∧ a.block < W.heap.size ∧ ∀ i (hi : i < l.length), W.cell? (a.add i) = some (.int .i64 l[i])
theorem NRow.kept {W W' : World} {ao : Option Addr} {l : List Int} (h : NRow W ao l) {B : Nat} (hB : ∀ a, ao = some a → a.block < B) (hb : Below B W W') (hs : W.heap.size ≤ W'.heap.size) : NRow W' ao l := fun h0 => by
  obtain ⟨a, rfl, h1, h2⟩ := h h0
  exact ⟨a, rfl, by omega, fun i hi => (hb.cell (p := a.add i) (by rw [block_add]; exact hB a rfl)).trans (h2 i hi)⟩
theorem open_nums {H : Type} {enc : TypeId × Value → H} {W : World} {ao : Option Addr} {len cap fuel : Nat} {x : DataW H × List MemPlace}
    (h : DataW.trod enc Try.prog W 0 (fun _ => true) true fuel 31 [.slice ao len cap] = some x) :
    ∃ l : List Int, l.length = len ∧ NRow W ao l ∧ len ≤ 9223372036854775807 ∧ ∀ p ∈ l, rg p := by
  rcases Go.Deep.open_slice Try.underlying31 h with ⟨hcs, _⟩ | ⟨a, n, c, m, nf, D, Pl, hcs, hb, hl, hm, hmm, hx, hcell⟩
  · simp at hcs
    obtain ⟨rfl, rfl, rfl⟩ := hcs
    exact ⟨[], rfl, fun h => by simp at h, by decide, fun p hp => by cases hp⟩
  · simp at hcs
    obtain ⟨rfl, rfl, rfl⟩ := hcs
    have hm2 : m = cap := by simpa using hmm
    subst hm2
    unfold maxLen at hm
    have each : ∀ i, i < len → ∃ s : Int, W.cell? (a.add i) = some (.int .i64 s) ∧ rg s := fun i hi => by
      obtain ⟨cs', h1, h2⟩ := hcell i (by omega)
      rw [cellsI64, Nat.mul_one] at h1
      obtain ⟨s, rfl, _, hs⟩ := DataW.trod_int Try.underlying2 h2
      obtain ⟨_, hlen, hc⟩ := World.cells?_some h1
      have := hc 0 (by omega)
      rw [Go.Deep.add_add, Nat.add_zero] at this
      exact ⟨s, by simpa using this, i64_bd hs⟩
    obtain ⟨q, hq⟩ := Go.Deep.choose_lt (α := Int) each
    refine ⟨(List.range len).map q, by simp, fun h0 => ?_, by omega, fun p hp => ?_⟩
    · refine ⟨a, rfl, ?_, fun i hi => ?_⟩
      · have := cell_lt (hq 0 (by simpa using h0)).1
        rwa [block_add] at this
      · have hi' : i < len := by simpa using hi
        simp only [List.getElem_map, List.getElem_range]
        exact (hq i hi').1
    · obtain ⟨i, hi, rfl⟩ := List.mem_map.1 hp
      exact (hq i (List.mem_range.1 hi)).2
theorem NRow.below {W W2 : World} {ao : Option Addr} {l : List Int} (h : NRow W ao l) (hb : Below W.heap.size W W2) : NRow W2 ao l := fun h0 => by
  obtain ⟨a, rfl, h1, h2⟩ := h h0
  exact ⟨a, rfl, by have := hb.size; omega, fun i hi => (hb.cell (p := a.add i) (by rw [block_add]; exact h1)).trans (h2 i hi)⟩
/-- All of them, one behind the other. -/
def sumGo : Int → List Int → Int × Int
  | n, [] => (n, 0)
  | n, x :: l => if rg (n + x) then sumGo (n + x) l else (0, 24)
set_option maxHeartbeats 1000000 in
theorem sum_any (A : Option Addr) (c : Nat) (l : List Int) (hl : l.length ≤ 100) (hall : ∀ p ∈ l, rg p) (w : World) (RA : NRow w A l) :
    Calls Try.prog 18 #[.slice A l.length c] w (Two w (sumGo 0 l).1 (sumGo 0 l).2) := by
  have HR := Lib.hid RA
  have HA := Lib.hid hall
  clear RA hall
  go_enter Try.func18, Try.ntmps18
  go_wp2
  go_loopw [4, 11] (fun s i wr => ∃ (j : Nat) (n : Int), j ≤ l.length ∧ s = .int .i64 n ∧ i = .int .i64 j ∧ rg n ∧ sumGo n (l.drop j) = sumGo 0 l ∧ Below w.heap.size w wr) (fun _ i _ => l.length - (intOf i).toNat)
  case atStart => exact ⟨0, 0, by omega, rfl, rfl, by decide, rfl, Below.refl _ _⟩
  case round =>
    obtain ⟨j, n, hj, rfl, rfl, hn, hs, hb⟩ := hrel
    have HS := Lib.hid hs
    have HN := Lib.hid hn
    clear hs hn
    by_cases h1 : j < l.length
    · obtain ⟨a, rfl, hab, hc⟩ := HR.out (by omega)
      have x0 := hb.cell (p := a.add j) (by rw [block_add]; exact hab) |>.trans (hc j h1)
      have hd : l.drop j = l[j] :: l.drop (j + 1) := List.drop_eq_getElem_cons h1
      have hx := HA.out l[j] (List.getElem_mem h1)
      rw [hd] at HS
      clear hc hd
      generalize l[j] = x at *
      have cA := Lib.hid (add_any n x HN.out hx)
      clear hx
      by_cases hr : rg (n + x)
      · rw [okv_in hr, erv_in hr] at cA
        rw [sumGo, if_pos hr] at HS
        have HV := Lib.hid hr
        clear hr
        go_wp2_with (go_at_call 8; (with_reducible refine (cA.out _).mono ?_); rintro e w2 ⟨rfl, hb'⟩; have hb := hb.trans (hb'.mono hb.size); clear hb')
        go_roundw
        case rel => exact ⟨j + 1, n + x, by omega, rfl, by go_num, HV.out, HS.out, hb⟩
        case measure => simp [intOf]; omega
      · rw [okv_out hr, erv_out hr] at cA
        rw [sumGo, if_neg hr] at HS
        clear hr
        go_wp2_with (go_at_call 8; (with_reducible refine (cA.out _).mono ?_); rintro e w2 ⟨rfl, hb'⟩; have hb := hb.trans (hb'.mono hb.size); clear hb')
        go_ret2
        exact two_mk (by rw [← HS.out]) (by rw [← HS.out]) hb
    · have hz : l.drop j = [] := List.drop_eq_nil_of_le (by omega)
      rw [hz, sumGo] at HS
      clear hz
      go_wp2
      go_ret2
      exact two_mk (by rw [← HS.out]) (by rw [← HS.out]) hb
set_option maxHeartbeats 1000000 in
theorem rsum_any (A : Option Addr) (c : Nat) (l : List Int) (hl : l.length ≤ 100) (hall : ∀ p ∈ l, rg p) (w : World) (RA : NRow w A l) :
    Calls Try.prog 19 #[.slice A l.length c] w (Two w (sumGo 0 l).1 (sumGo 0 l).2) := by
  have HR := Lib.hid RA
  have HA := Lib.hid hall
  clear RA hall
  go_enter Try.func19, Try.ntmps19
  go_wp2
  go_loopw [4, 11] (fun s i wr => ∃ (j : Nat) (n : Int), j ≤ l.length ∧ s = .int .i64 n ∧ i = .int .i64 j ∧ rg n ∧ sumGo n (l.drop j) = sumGo 0 l ∧ Below w.heap.size w wr) (fun _ i _ => l.length - (intOf i).toNat)
  case atStart => exact ⟨0, 0, by omega, rfl, rfl, by decide, rfl, Below.refl _ _⟩
  case round =>
    obtain ⟨j, n, hj, rfl, rfl, hn, hs, hb⟩ := hrel
    have HS := Lib.hid hs
    have HN := Lib.hid hn
    clear hs hn
    by_cases h1 : j < l.length
    · obtain ⟨a, rfl, hab, hc⟩ := HR.out (by omega)
      have x0 := hb.cell (p := a.add j) (by rw [block_add]; exact hab) |>.trans (hc j h1)
      have hd : l.drop j = l[j] :: l.drop (j + 1) := List.drop_eq_getElem_cons h1
      have hx := HA.out l[j] (List.getElem_mem h1)
      rw [hd] at HS
      clear hc hd
      generalize l[j] = x at *
      have cA := Lib.hid (radd_any n x HN.out hx)
      clear hx
      by_cases hr : rg (n + x)
      · rw [okv_in hr, erv_in hr] at cA
        rw [sumGo, if_pos hr] at HS
        have HV := Lib.hid hr
        clear hr
        go_wp2_with (go_at_call 9; (with_reducible refine (cA.out _).mono ?_); rintro e w2 ⟨rfl, hb'⟩; have hb := hb.trans (hb'.mono hb.size); clear hb')
        go_roundw
        case rel => exact ⟨j + 1, n + x, by omega, rfl, by go_num, HV.out, HS.out, hb⟩
        case measure => simp [intOf]; omega
      · rw [okv_out hr, erv_out hr] at cA
        rw [sumGo, if_neg hr] at HS
        clear hr
        go_wp2_with (go_at_call 9; (with_reducible refine (cA.out _).mono ?_); rintro e w2 ⟨rfl, hb'⟩; have hb := hb.trans (hb'.mono hb.size); clear hb')
        go_ret2
        exact two_mk (by rw [← HS.out]) (by rw [← HS.out]) hb
    · have hz : l.drop j = [] := List.drop_eq_nil_of_le (by omega)
      rw [hz, sumGo] at HS
      clear hz
      go_wp2
      go_ret2
      exact two_mk (by rw [← HS.out]) (by rw [← HS.out]) hb
end Go.Proofs.Ytidbefagbjlomaa
