/-
  The document's own disk: what it reads, what is loose, what is synced, made and deleted. Conditions: as each theorem states.
-/
import Derived.Test.YtpeobjnamflibaaDkT
namespace Go.Proofs.Ytpeobjnamflibaa.Dk
open Go.RowKit Go.Maps

section
variable {w : World} {q : Nat} {v : Value} {L A B : List RFile} {f : RFile} {room steps fuse fault : Int} {down : Bool}
theorem find_hit (h : RefAt w q v (A ++ f :: B) room steps fuse fault down) (hA : ∀ a ∈ A, a.name ≠ f.name) :
    Calls Try.prog 42 #[.pointer (some ⟨q, 0, none⟩), .string f.name] w fun r w' => r = .returned (.int .i64 (A.length : Int)) ∧ Below w.heap.size w w' := by
  have h1 := find_any h.ref h.row f.name h.few
  have h2 : findI (A ++ f :: B) f.name.data.toList = (A.length : Int) := findL_some (k := A.length) (by simp) (fun j hj => by
    rw [List.getElem?_append_left hj, List.getElem?_eq_getElem hj]
    simp
    exact hA _ (List.getElem_mem hj)) (by simp)
  rw [h2] at h1
  exact h1
theorem find_miss (h : RefAt w q v L room steps fuse fault down) (s : ByteArray) (hA : ∀ a ∈ L, a.name ≠ s) :
    Calls Try.prog 42 #[.pointer (some ⟨q, 0, none⟩), .string s] w fun r w' => r = .returned (.int .i64 (-1)) ∧ Below w.heap.size w w' := by
  have h1 := find_any h.ref h.row s h.few
  have h2 : findI L s.data.toList = -1 := findL_none (fun j hj => by
    rw [List.getElem?_eq_getElem hj]
    simp
    exact hA _ (List.getElem_mem hj))
  rw [h2] at h1
  exact h1
/-- where the row lies, and the cells of one of its files -/
theorem RefAt.mid (h : RefAt w q v (A ++ f :: B) room steps fuse fault down) : ∃ g cap cur, v = .slice (some ⟨g, 0, none⟩) (A.length + (B.length + 1)) cap ∧ w.heap[g]? = some (.cells cur 69 (0, 0)) ∧ A.length + (B.length + 1) ≤ cap ∧ cap ≤ maxLen ∧
    w.cell? ⟨g, A.length * 3, none⟩ = some (.string f.name) ∧ w.cell? ⟨g, A.length * 3 + 1, none⟩ = some (.string f.s) ∧ w.cell? ⟨g, A.length * 3 + 2, none⟩ = some (.int .i64 (f.sure : Int)) := by
  rcases h.row.2 with ⟨rfl, hn⟩ | ⟨g, cap, cur, rfl, _, hh, hl, hm, hsz, hcur⟩
  · simp at hn
  · have := row_cells hh hcur A.length (by simp)
    have e : (A ++ f :: B)[A.length]'(by simp) = f := by simp
    rw [e] at this
    rw [List.length_append, List.length_cons] at hl ⊢
    exact ⟨g, cap, cur, rfl, hh, hl, hm, this⟩
theorem rread_hit (h : RefAt w q v (A ++ f :: B) room steps fuse fault false) (hA : ∀ a ∈ A, a.name ≠ f.name) :
    Calls Try.prog 21 #[.pointer (some ⟨q, 0, none⟩), .string f.name] w fun r w' => r = .returned (.tuple #[.string f.s, .int .i64 0]) ∧ Below w.heap.size w w' := by
  obtain ⟨g, cap, cur, rfl, hh, hl, hm, x1, x2, x3⟩ := h.mid
  have c0 := ref0 h.ref
  have c5 := ref5 h.ref
  have hfew := h.few
  have hq : q < w.heap.size := h.lt q (by simp [rfeet])
  have hg : g < w.heap.size := h.lt g (by simp [rfeet, Value.ownBlock])
  have H := Lib.hid (And.intro h hA)
  clear h hA hh
  go_enter Try.func21, Try.ntmps21
  go_wp2_with (go_at_call 42
               with_reducible refine (find_hit H.out.1 H.out.2).mono ?_
               rintro r w1 ⟨rfl, hb⟩
               have c0' := (hb.cell (p := ⟨q, 0, none⟩) hq).trans c0
               have x2' := (hb.cell (p := ⟨g, A.length * 3 + 1, none⟩) hg).trans x2)
  go_ret2
  exact ⟨rfl, hb⟩
theorem rread_miss (h : RefAt w q v L room steps fuse fault false) (s : ByteArray) (hA : ∀ a ∈ L, a.name ≠ s) :
    Calls Try.prog 21 #[.pointer (some ⟨q, 0, none⟩), .string s] w fun r w' => r = .returned (.tuple #[.string ⟨#[]⟩, .int .i64 16]) ∧ Below w.heap.size w w' := by
  have c0 := ref0 h.ref
  have c5 := ref5 h.ref
  have H := Lib.hid (And.intro h hA)
  clear h hA
  go_enter Try.func21, Try.ntmps21
  go_wp2_with (go_at_call 42
               with_reducible refine (find_miss H.out.1 s H.out.2).mono ?_
               rintro r w1 ⟨rfl, hb⟩)
  go_ret2
  exact ⟨rfl, hb⟩
theorem rread_down (h : RefAt w q v L room steps fuse fault true) (s : ByteArray) :
    Calls Try.prog 21 #[.pointer (some ⟨q, 0, none⟩), .string s] w fun r w' => r = .returned (.tuple #[.string ⟨#[]⟩, .int .i64 13]) ∧ w = w' := by
  have c5 := ref5 h.ref
  have H := Lib.hid h
  clear h
  go_enter Try.func21, Try.ntmps21
  go_wp2
  go_ret2
  exact ⟨rfl, rfl⟩
theorem rloose_hit (h : RefAt w q v (A ++ f :: B) room steps fuse fault down) (hA : ∀ a ∈ A, a.name ≠ f.name) :
    Calls Try.prog 35 #[.pointer (some ⟨q, 0, none⟩), .string f.name] w fun r w' => r = .returned (.int .i64 ((f.s.size : Int) - (f.sure : Int))) ∧ Below w.heap.size w w' := by
  obtain ⟨g, cap, cur, rfl, hh, hl, hm, x1, x2, x3⟩ := h.mid
  have c0 := ref0 h.ref
  have hfew := h.few
  have hq : q < w.heap.size := h.lt q (by simp [rfeet])
  have hg : g < w.heap.size := h.lt g (by simp [rfeet, Value.ownBlock])
  have hsure := h.sure f (by simp)
  have hsz : f.s.size ≤ 16777216 := by
    have := h.vol
    simp [usedR] at this
    omega
  have H := Lib.hid (And.intro h hA)
  clear h hA hh
  go_enter Try.func35, Try.ntmps35
  go_wp2_with (go_at_call 42
               with_reducible refine (find_hit H.out.1 H.out.2).mono ?_
               rintro r w1 ⟨rfl, hb⟩
               have c0' := (hb.cell (p := ⟨q, 0, none⟩) hq).trans c0
               have x2' := (hb.cell (p := ⟨g, A.length * 3 + 1, none⟩) hg).trans x2
               have x3' := (hb.cell (p := ⟨g, A.length * 3 + 2, none⟩) hg).trans x3)
  go_quiet (fail)
  go_wp2
  go_ret
  exact ⟨rfl, below_drewN hb _⟩
theorem rloose_miss (h : RefAt w q v L room steps fuse fault down) (s : ByteArray) (hA : ∀ a ∈ L, a.name ≠ s) :
    Calls Try.prog 35 #[.pointer (some ⟨q, 0, none⟩), .string s] w fun r w' => r = .returned (.int .i64 0) ∧ Below w.heap.size w w' := by
  have c0 := ref0 h.ref
  have H := Lib.hid (And.intro h hA)
  clear h hA
  go_enter Try.func35, Try.ntmps35
  go_wp2_with (go_at_call 42
               with_reducible refine (find_miss H.out.1 s H.out.2).mono ?_
               rintro r w1 ⟨rfl, hb⟩)
  go_ret
  exact ⟨rfl, hb⟩
end
end Go.Proofs.Ytpeobjnamflibaa.Dk
