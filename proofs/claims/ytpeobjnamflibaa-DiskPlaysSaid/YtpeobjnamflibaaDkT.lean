/-
  The document's own disk: how it is made, its steps, what it tells. Conditions: as each theorem states.
-/
import Derived.Test.YtpeobjnamflibaaDkS
namespace Go.Proofs.Ytpeobjnamflibaa.Dk
open Go.RowKit Go.Maps

def usedR (L : List RFile) : Nat := (L.map fun f => f.s.size).sum
def rfeet (q : Nat) (v : Value) : List Nat := q :: v.ownBlock.toList
structure RefAt (w : World) (q : Nat) (v : Value) (L : List RFile) (room steps fuse fault : Int) (down : Bool) : Prop where
  ref : RefIs w q v room steps fuse fault down
  row : w.ownsRow 0 69 3 v L.length (L.flatMap RFile.cells)
  few : L.length ≤ 200
  apart : v.ownBlock ≠ some q
  sure : ∀ f ∈ L, f.sure ≤ f.s.size
  vol : usedR L ≤ 16777216
theorem RefAt.lt {w : World} {q : Nat} {v : Value} {L : List RFile} {room steps fuse fault : Int} {down : Bool} (h : RefAt w q v L room steps fuse fault down) : ∀ k ∈ rfeet q v, k < w.heap.size := by
  intro k hk
  unfold rfeet at hk
  rcases List.mem_cons.1 hk with rfl | hk
  · exact (Array.getElem?_eq_some_iff.1 h.ref).1
  · exact ownsRow_lt h.row (by simpa using hk)
/-- another state of the same files -/
theorem RefAt.turn {w w' : World} {q : Nat} {v : Value} {L : List RFile} {room steps fuse fault room' steps' fuse' fault' : Int} {down down' : Bool} (h : RefAt w q v L room steps fuse fault down) (hd : RefIs w' q v room' steps' fuse' fault' down') (hg : w.grownBy w' (some q)) :
    RefAt w' q v L room' steps' fuse' fault' down' ∧ Moves w (rfeet q v) w' (rfeet q v) :=
  ⟨⟨hd, ownsRow_kept h.row (fun g hgv => hg.block g (ownsRow_lt h.row hgv) (by intro e; injection e with e; subst e; exact h.apart hgv)), h.few, h.apart, h.sure, h.vol⟩,
    ⟨Only.of_grown hg (fun k e => by injection e with e; subst e; simp [rfeet]), fun k hk => Or.inl hk⟩⟩
theorem RefAt.below {w w' : World} {q : Nat} {v : Value} {L : List RFile} {room steps fuse fault : Int} {down : Bool} (h : RefAt w q v L room steps fuse fault down) (hb : Below w.heap.size w w') : RefAt w' q v L room steps fuse fault down :=
  ⟨(hb.block q (h.lt q (by simp [rfeet]))).trans h.ref, ownsRow_kept h.row (fun g hg => hb.block g (ownsRow_lt h.row hg)), h.few, h.apart, h.sure, h.vol⟩

theorem grown_refl (w : World) (r : Option Nat) : w.grownBy w r := ⟨rfl, rfl, rfl, Nat.le_refl _, fun _ _ _ => rfl⟩
section
variable {w : World} {q : Nat} {v : Value} {L : List RFile} {room steps fuse fault : Int} {down : Bool}
theorem ref1 (h : RefIs w q v room steps fuse fault down) : w.cell? ⟨q, 1, none⟩ = some (.int .i64 room) := cell_in h 1 _ rfl
theorem ref2 (h : RefIs w q v room steps fuse fault down) : w.cell? ⟨q, 2, none⟩ = some (.int .i64 steps) := cell_in h 2 _ rfl
theorem ref3 (h : RefIs w q v room steps fuse fault down) : w.cell? ⟨q, 3, none⟩ = some (.int .i64 fuse) := cell_in h 3 _ rfl
theorem ref4 (h : RefIs w q v room steps fuse fault down) : w.cell? ⟨q, 4, none⟩ = some (.int .i64 fault) := cell_in h 4 _ rfl
theorem ref5 (h : RefIs w q v room steps fuse fault down) : w.cell? ⟨q, 5, none⟩ = some (.bool down) := cell_in h 5 _ rfl

/-- a step of the document's disk -/
def RStep (own steps fuse fault : Int) (down : Bool) (code steps' fuse' fault' : Int) (down' : Bool) : Prop :=
  (down = true ∧ code = 13 ∧ steps' = steps ∧ fuse' = fuse ∧ fault' = fault ∧ down' = true) ∨
  (down = false ∧ (own == 0) = false ∧ code = own ∧ steps' = steps ∧ fuse' = fuse ∧ fault' = fault ∧ down' = false) ∨
  (down = false ∧ own = 0 ∧ StepFails 0 steps fuse fault code fault' down' ∧ steps' = steps ∧ fuse' = fuse) ∨
  (down = false ∧ own = 0 ∧ CanStep steps fuse fault ∧ code = 0 ∧ steps' = steps + 1 ∧ fuse' = tick fuse ∧ fault' = tick fault ∧ down' = false)
theorem rstep_any {own code steps' fuse' fault' : Int} {down' : Bool} (h : RefIs w q v room steps fuse fault down) (hs : RStep own steps fuse fault down code steps' fuse' fault' down') :
    Calls Try.prog 44 #[.pointer (some ⟨q, 0, none⟩), .int .i64 own] w fun r w' => r = .returned (.int .i64 code) ∧ RefIs w' q v room steps' fuse' fault' down' ∧ w.grownBy w' (some q) := by
  have c2 := ref2 h
  have c3 := ref3 h
  have c4 := ref4 h
  have c5 := ref5 h
  have f2 := free_in h 2
  have f3 := free_in h 3
  have f4 := free_in h 4
  have f5 := free_in h 5
  have H := Lib.hid h
  clear h
  rcases hs with ⟨rfl, rfl, rfl, rfl, rfl, rfl⟩ | ⟨rfl, ho, rfl, rfl, rfl, rfl, rfl⟩ | ⟨rfl, rfl, hf, rfl, rfl⟩ | ⟨rfl, rfl, hc, rfl, rfl, rfl, rfl, rfl⟩
  · go_enter Try.func44, Try.ntmps44
    go_wp2
    go_ret
    exact ⟨rfl, H.out, grown_refl _ _⟩
  · go_enter Try.func44, Try.ntmps44
    go_wp2
    go_ret
    exact ⟨rfl, H.out, grown_refl _ _⟩
  · rcases hf with ⟨rfl, rfl, rfl, rfl⟩ | ⟨⟨hf, rfl, rfl, rfl, rfl⟩, _⟩
    · go_enter Try.func44, Try.ntmps44
      go_wp2
      go_ret
      exact ⟨rfl, heap_set H.out 5 _, grown_set _ _ _ _⟩
    · go_enter Try.func44, Try.ntmps44
      go_wp2
      go_ret
      exact ⟨rfl, heap_set H.out 4 _, grown_set _ _ _ _⟩
  · obtain ⟨hf, ha, b1, b2, b3, b4, b5, b6⟩ := hc
    by_cases g1 : 0 < fuse
    · by_cases g2 : 0 < fault
      · go_enter Try.func44, Try.ntmps44
        go_wp2
        go_ret
        refine ⟨rfl, ?_, ((grown_set _ _ _ _).trans (grown_set _ _ _ _)).trans (grown_set _ _ _ _)⟩
        rw [tick_pos (by omega), tick_pos (by omega)]
        exact heap_set (heap_set (heap_set H.out 3 _) 4 _) 2 _
      · have g2' : fault ≤ 0 := by omega
        go_enter Try.func44, Try.ntmps44
        go_wp2
        go_ret
        refine ⟨rfl, ?_, (grown_set _ _ _ _).trans (grown_set _ _ _ _)⟩
        rw [tick_pos (by omega), tick_neg (by omega)]
        exact heap_set (heap_set H.out 3 _) 2 _
    · have g1' : fuse ≤ 0 := by omega
      by_cases g2 : 0 < fault
      · go_enter Try.func44, Try.ntmps44
        go_wp2
        go_ret
        refine ⟨rfl, ?_, (grown_set _ _ _ _).trans (grown_set _ _ _ _)⟩
        rw [tick_neg (by omega), tick_pos (by omega)]
        exact heap_set (heap_set H.out 4 _) 2 _
      · have g2' : fault ≤ 0 := by omega
        go_enter Try.func44, Try.ntmps44
        go_wp2
        go_ret
        refine ⟨rfl, ?_, grown_set _ _ _ _⟩
        rw [tick_neg (by omega), tick_neg (by omega)]
        exact heap_set H.out 2 _
end
theorem rnew_any {w : World} {room : Int} (h0 : 0 ≤ room) (h1 : room ≤ 16777216) :
    Calls Try.prog 6 #[.int .i64 room] w fun r w' => r = .returned (.pointer (some ⟨w.heap.size, 0, none⟩)) ∧ RefAt w' w.heap.size (.slice none 0 0) [] room 0 (-1) (-1) false ∧ Below w.heap.size w w' := by
  go_enter Try.func6, Try.ntmps6
  go_wp2
  go_ret
  refine ⟨rfl, ⟨?_, ⟨rfl, Or.inl ⟨rfl, rfl⟩⟩, by simp, by simp [Value.ownBlock], by simp, by simp [usedR]⟩, ?_⟩
  · exact heap_alloc_new w _
  · exact (Below.refl _ w).alloc (Nat.le_refl _) _
theorem rnew_bad {w : World} {room : Int} (h : room < 0 ∨ 16777216 < room) : Calls Try.prog 6 #[.int .i64 room] w fun r w' => r = .returned (.pointer none) ∧ w = w' := by
  rcases h with h | h
  · go_enter Try.func6, Try.ntmps6
    go_wp2
    go_ret
    exact ⟨rfl, rfl⟩
  · have h' : 0 ≤ room := by omega
    go_enter Try.func6, Try.ntmps6
    go_wp2
    go_ret
    exact ⟨rfl, rfl⟩
theorem usedR_take {L : List RFile} {k : Nat} (hk : k < L.length) : usedR (L.take (k + 1)) = usedR (L.take k) + (L[k].s).size := by
  unfold usedR
  rw [List.take_succ_eq_append_getElem hk, List.map_append, List.sum_append_nat]
  simp
theorem usedR_le (L : List RFile) (k : Nat) : usedR (L.take k) ≤ usedR L := by
  unfold usedR
  conv => rhs; rw [← List.take_append_drop k L, List.map_append, List.sum_append_nat]
  exact Nat.le_add_right _ _
def UsedRRel (w : World) (L : List RFile) (n i : Value) (wr : World) : Prop := ∃ k : Nat, k ≤ L.length ∧ i = .int .i64 k ∧ (∃ u : Nat, u ≤ 16777216 ∧ n = .int .i64 (u : Int) ∧ Hid (u = usedR (L.take k))) ∧ Below w.heap.size w wr
theorem rused_any {w : World} {q : Nat} {v : Value} {L : List RFile} {room steps fuse fault : Int} {down : Bool} (h : RefAt w q v L room steps fuse fault down) :
    Calls Try.prog 31 #[.pointer (some ⟨q, 0, none⟩)] w fun r w' => r = .returned (.int .i64 ((usedR L : Nat) : Int)) ∧ Below w.heap.size w w' := by
  have c0 := ref0 h.ref
  have hr := h.row
  have hf := h.few
  have H := Lib.hid h
  clear h
  rcases hr.2 with ⟨rfl, hn⟩ | ⟨g, cap, cur, rfl, _, hh, hl, hm, hsz, hcur⟩
  · have hL : L = [] := List.length_eq_zero_iff.1 hn
    subst hL
    clear hr hn
    go_enter Try.func31, Try.ntmps31
    go_wp2
    go_loop [3, 11] (fun n i => n = .int .i64 0 ∧ i = .int .i64 0) (fun _ i => 0)
    case atStart => exact ⟨rfl, rfl⟩
    case round =>
      obtain ⟨rfl, rfl⟩ := hrel
      go_wp2
      go_ret
      exact ⟨rfl, Below.refl _ _⟩
  · have HC := Lib.hid (And.intro hh hcur)
    have hq : q < w.heap.size := (Array.getElem?_eq_some_iff.1 H.out.ref).1
    have hg : g < w.heap.size := (Array.getElem?_eq_some_iff.1 hh).1
    have HR := Lib.hid (And.intro hr hsz)
    clear hr hsz hh hcur
    go_enter Try.func31, Try.ntmps31
    go_wp2
    go_loopw [3, 11] (UsedRRel w L) (fun _ i _ => L.length - (intOf i).toNat)
    case atStart => exact ⟨0, by omega, rfl, ⟨0, by omega, rfl, Lib.hid rfl⟩, Below.refl _ _⟩
    case round =>
      obtain ⟨k, hk, rfl, ⟨u, hu, rfl, hu'⟩, hb⟩ := hrel
      by_cases hlt : k < L.length
      · obtain ⟨x1, x2, x3⟩ := row_cells HC.out.1 HC.out.2 k hlt
        rw [← hb.cell (p := ⟨g, k * 3, none⟩) hg] at x1
        rw [← hb.cell (p := ⟨g, k * 3 + 1, none⟩) hg] at x2
        rw [← hb.cell (p := ⟨g, k * 3 + 2, none⟩) hg] at x3
        have hut := Lib.hid (usedR_take hlt)
        have hus : u + (L[k].s).size ≤ 16777216 := by
          have h1 := usedR_le L (k + 1)
          have h2 := H.out.vol
          have h3 := hu'.out
          have h4 := hut.out
          omega
        go_wp2
        go_roundw
        case rel => exact ⟨k + 1, by omega, by go_num, ⟨u + (L[k].s).size, by omega, by go_num, Lib.hid (by rw [hut.out, ← hu'.out])⟩, hb.alloc hb.size _⟩
        case measure => simp [intOf]; omega
      · obtain rfl : k = L.length := by omega
        have hu2 := hu'.out
        rw [List.take_of_length_le (Nat.le_refl _)] at hu2
        subst hu2
        go_wp2
        go_ret
        exact ⟨rfl, hb⟩
end Go.Proofs.Ytpeobjnamflibaa.Dk
