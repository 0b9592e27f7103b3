/-
  The document's own disk as it lies in memory, and what is asked of it. Conditions: as each theorem states.
-/
import Derived.Test.YtpeobjnamflibaaDkR
import Derived.Lib.SlicesS
namespace Go.Proofs.Ytpeobjnamflibaa.Dk
open Go.RowKit Go.Maps

/-- a file of the document's disk -/
structure RFile where
  name : ByteArray
  s : ByteArray
  sure : Nat
def RFile.cells (f : RFile) : List Value := [.string f.name, .string f.s, .int .i64 (f.sure : Int)]
def refCells (v : Value) (room steps fuse fault : Int) (down : Bool) : Array Value :=
  #[v, .int .i64 room, .int .i64 steps, .int .i64 fuse, .int .i64 fault, .bool down]
def RefIs (w : World) (q : Nat) (v : Value) (room steps fuse fault : Int) (down : Bool) : Prop :=
  w.heap[q]? = some (.cells (refCells v room steps fuse fault down) 47 (0, 0))
theorem ref0 {w : World} {q : Nat} {v : Value} {room steps fuse fault : Int} {down : Bool} (h : RefIs w q v room steps fuse fault down) : w.cell? ⟨q, 0, none⟩ = some v := cell_in h 0 _ rfl
def findL (L : List RFile) (x : List UInt8) : Option Nat := L.findIdx? (fun f => f.name.data.toList == x)
def findI (L : List RFile) (x : List UInt8) : Int := match findL L x with | some i => (i : Int) | none => -1
/-- the cells of a row of files -/
theorem cells_at (L : List RFile) (k : Nat) (hk : k < L.length) (j : Nat) (hj : j < 3) : (L.flatMap RFile.cells)[k * 3 + j]? = (L[k].cells)[j]? := by
  induction L generalizing k with
  | nil => simp at hk
  | cons a L ih =>
    rw [List.flatMap_cons]
    cases k with
    | zero => rw [List.getElem?_append_left (by simp [RFile.cells]; omega)]; simp
    | succ k =>
      rw [List.getElem?_append_right (by simp [RFile.cells]; omega)]
      have := ih k (by simpa using hk)
      simp [RFile.cells] at this ⊢
      rw [← this]
      congr 1
      omega
theorem row_cells {w : World} {g : Nat} {cur : Array Value} {L : List RFile} (hh : w.heap[g]? = some (.cells cur 69 (0, 0))) (hcur : cur.toList.take (L.length * 3) = L.flatMap RFile.cells) (k : Nat) (hk : k < L.length) :
    w.cell? ⟨g, k * 3, none⟩ = some (.string L[k].name) ∧ w.cell? ⟨g, k * 3 + 1, none⟩ = some (.string L[k].s) ∧ w.cell? ⟨g, k * 3 + 2, none⟩ = some (.int .i64 (L[k].sure : Int)) := by
  have key : ∀ j, j < 3 → cur[k * 3 + j]? = (L[k].cells)[j]? := by
    intro j hj
    rw [← cells_at L k hk j hj, ← hcur, List.getElem?_take_of_lt (by omega), Array.getElem?_toList]
  exact ⟨cell_in hh _ _ (key 0 (by omega)), cell_in hh _ _ (key 1 (by omega)), cell_in hh _ _ (key 2 (by omega))⟩
theorem findL_none {L : List RFile} {s : ByteArray} (h : ∀ j, j < L.length → (L[j]?.map (fun f => f.name)) ≠ some s) : findI L s.data.toList = -1 := by
  have : findL L s.data.toList = none := by
    unfold findL
    rw [List.findIdx?_eq_none_iff]
    intro f hf
    obtain ⟨j, hj, rfl⟩ := List.getElem_of_mem hf
    have := h j hj
    simp [hj] at this
    rw [beq_eq_false_iff_ne]
    intro e
    exact this (ByteArray.ext (Array.toList_inj.1 e))
  unfold findI
  rw [this]
theorem findL_some {L : List RFile} {s : ByteArray} {k : Nat} (hk : k < L.length) (h : ∀ j, j < k → (L[j]?.map (fun f => f.name)) ≠ some s) (he : L[k].name = s) : findI L s.data.toList = (k : Int) := by
  have : findL L s.data.toList = some k := by
    unfold findL
    rw [List.findIdx?_eq_some_iff_getElem]
    refine ⟨hk, by simp [he], fun j hj => ?_⟩
    have := h j hj
    have hj' : j < L.length := by omega
    simp [hj'] at this
    simp only [beq_iff_eq]
    intro e
    exact this (ByteArray.ext (Array.toList_inj.1 e))
  unfold findI
  rw [this]
def FindRel (w : World) (L : List RFile) (s : ByteArray) (i : Value) (wr : World) : Prop := ∃ k : Nat, k ≤ L.length ∧ i = .int .i64 k ∧ Hid (∀ j, j < k → (L[j]?.map (fun f => f.name)) ≠ some s) ∧ Below w.heap.size w wr
theorem find_any {w : World} {q : Nat} {v : Value} {room steps fuse fault : Int} {down : Bool} {L : List RFile} (h : RefIs w q v room steps fuse fault down) (hr : w.ownsRow 0 69 3 v L.length (L.flatMap RFile.cells)) (s : ByteArray) (hf : L.length ≤ 200) :
    Calls Try.prog 42 #[.pointer (some ⟨q, 0, none⟩), .string s] w fun r w' => r = .returned (.int .i64 (findI L s.data.toList)) ∧ Below w.heap.size w w' := by
  have c0 := ref0 h
  have H := Lib.hid h
  clear h
  rcases hr.2 with ⟨rfl, hn⟩ | ⟨g, cap, cur, rfl, _, hh, hl, hm, hsz, hcur⟩
  · have hL : L = [] := List.length_eq_zero_iff.1 hn
    subst hL
    clear hr hn
    go_enter Try.func42, Try.ntmps42
    go_wp2
    go_loop [12] (fun i => i = .int .i64 0) (fun i => 0)
    case atStart => rfl
    case round =>
      subst hrel
      go_wp2
      go_ret
      exact ⟨rfl, Below.refl _ _⟩
  · have HC := Lib.hid (And.intro hh hcur)
    have hq : q < w.heap.size := (Array.getElem?_eq_some_iff.1 H.out).1
    have hg : g < w.heap.size := (Array.getElem?_eq_some_iff.1 hh).1
    have HR := Lib.hid (And.intro hr hsz)
    clear hr hsz hh hcur
    go_enter Try.func42, Try.ntmps42
    go_wp2
    go_loopw [12] (FindRel w L s) (fun i _ => L.length - (intOf i).toNat)
    case atStart => exact ⟨0, by omega, rfl, Lib.hid (fun j hj => by omega), Below.refl _ _⟩
    case round =>
      obtain ⟨k, hk, rfl, ha, hb⟩ := hrel
      by_cases hlt : k < L.length
      · obtain ⟨x1, x2, x3⟩ := row_cells HC.out.1 HC.out.2 k hlt
        rw [← hb.cell (p := ⟨g, k * 3, none⟩) hg] at x1
        rw [← hb.cell (p := ⟨g, k * 3 + 1, none⟩) hg] at x2
        rw [← hb.cell (p := ⟨g, k * 3 + 2, none⟩) hg] at x3
        by_cases hin : L[k].name = s
        · go_wp2
          go_ret
          exact ⟨by rw [findL_some hlt ha.out hin]; rfl, hb.alloc hb.size _⟩
        · have hbq := (Lib.bytes_beq_false_iff L[k].name s).2 hin
          go_wp2
          go_roundw
          case rel => exact ⟨k + 1, by omega, by go_num, Lib.hid (fun j hj => by
            by_cases hjk : j = k
            · subst hjk; simp [hlt]; exact hin
            · exact ha.out j (by omega)), hb.alloc hb.size _⟩
          case measure => simp [intOf]; omega
      · obtain rfl : k = L.length := by omega
        go_wp2
        go_ret
        exact ⟨by rw [findL_none ha.out]; rfl, hb⟩

/-! ### names -/
theorem isNm_bad {l l' : List UInt8} {k : Nat} {c : UInt8} (h : l.take (k + 1) = l' ++ [c]) (hin : inNm c = false) : isNm l = false := by
  have hm : c ∈ l := List.mem_of_mem_take (i := k + 1) (by rw [h]; simp)
  have : l.all inNm = false := by rw [List.all_eq_false]; exact ⟨_, hm, by simp [hin]⟩
  simp [isNm, this]
theorem named_any (s : ByteArray) (hs : Hid (s.size ≤ maxLen)) (w : World) : Calls Try.prog 43 #[.string s] w fun e w' => e = .returned (.bool (isNm s.data.toList)) ∧ w = w' := by
  have hl : s.data.toList.length = s.size := by rw [Array.length_toList]; rfl
  have hx : s.size ≤ 9223372036854775807 := hs.out
  by_cases h1 : s.size < 1 ∨ 32 < s.size
  · rw [isNm_no (by rw [hl]; exact h1)]
    clear hl
    by_cases h2 : s.size < 1
    · clear h1
      go_enter Try.func43, Try.ntmps43
      go_wp2
      go_ret
      exact ⟨rfl, rfl⟩
    · have h3 : 32 < s.size := by omega
      have h2' : 1 ≤ s.size := by omega
      clear h1 h2
      go_enter Try.func43, Try.ntmps43
      go_wp2
      go_ret
      exact ⟨rfl, rfl⟩
  · have h2 : 1 ≤ s.size := by omega
    have h3 : s.size ≤ 32 := by omega
    clear h1
    have HL := Lib.hid hl
    clear hl
    go_enter Try.func43, Try.ntmps43
    go_wp2
    go_loop [3] (fun i => ∃ k : Nat, k ≤ s.size ∧ i = .int .i64 k ∧ (s.data.toList.take k).all inNm = true) (fun i => s.size - (intOf i).toNat)
    case atStart => exact ⟨0, by omega, rfl, rfl⟩
    case round =>
      obtain ⟨k, hk, rfl, ha⟩ := hrel
      have HA := Lib.hid ha
      clear ha
      by_cases hlt : k < s.size
      · have hts := Lib.hid (take_snoc' s k hlt)
        have hc := (s[k]).toNat_lt
        go_wp2
        all_goals first
          | (refine ⟨⟨k + 1, by omega, by go_num, ?_⟩, by simp [intOf]; omega⟩
             rw [hts.out, List.all_append, HA.out]
             have hin : inNm s[k] = true := by (first | (simp [inNm]; omega) | (simp [inNm]; simp only [Bool.not_eq_false', bne_eq_false_iff_eq, decide_eq_true_eq] at *; omega))
             simp [hin])
          | (go_ret
             have hin : inNm s[k] = false := by (first | (simp [inNm]; omega) | (simp [inNm]; simp only [bne_iff_ne] at *; omega))
             refine ⟨congrArg (fun b => Ending.returned (.bool b)) ?_, rfl⟩
             exact (isNm_bad hts.out hin).symm)
      · go_wp2
        go_ret
        refine ⟨congrArg (fun b => Ending.returned (.bool b)) ?_, rfl⟩
        have h0 := HA.out
        rw [List.take_of_length_le (by rw [HL.out]; omega)] at h0
        unfold isNm
        rw [h0, HL.out]
        simp [h2, h3]
end Go.Proofs.Ytpeobjnamflibaa.Dk
