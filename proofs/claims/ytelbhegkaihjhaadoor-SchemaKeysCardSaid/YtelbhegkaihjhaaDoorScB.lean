/-
  The Go text of a market's keys, walked: a part tells something of a thing. Conditions: as each theorem states.
-/
import Derived.Test.YtelbhegkaihjhaaDoorScA
namespace Go.Proofs.YtelbhegkaihjhaaDoor
open Go.RowKit
open Vi

theorem heap_old {w : World} {b : Nat} {o2 : Obj} (h : w.heap[b]? = some o2) (o : Obj) : (w.alloc o).heap[b]? = some o2 := by
  have hlt := (Array.getElem?_eq_some_iff.1 h).1
  show (w.heap.push o)[b]? = _
  rw [Array.getElem?_push_lt hlt]; rw [Array.getElem?_eq_getElem hlt] at h; exact h
/-- what a store of one field leaves -/
def TkPost (w : World) (b : Nat) (c : Array Value) (e : Ending) (w' : World) : Prop :=
  e = .returned (.tuple #[]) ∧ w'.heap[b]? = some (.cells c 24 (0, 0)) ∧ w.grownBy w' (some b)
theorem tk_end {w : World} {b : Nat} {x : Th} (o : Obj) (h : w.heap[b]? = some (.cells x.cells 24 (0, 0))) (j : Nat) (v : Value) :
    ((w.setCell ⟨b, j, none⟩ v).alloc o).heap[b]? = some (.cells (x.cells.setIfInBounds j v) 24 (0, 0)) ∧ w.grownBy ((w.setCell ⟨b, j, none⟩ v).alloc o) (some b) :=
  ⟨heap_old (heap_set h j v) o, (grown_set _ b j v).trans (grown_below ((Below.refl _ _).alloc (Nat.le_refl _) o) (some b))⟩
theorem take_a {w : World} (b : Nat) (x : Th) (p : KPart) (h : w.heap[b]? = some (.cells x.cells 24 (0, 0))) :
    Calls Tryd.prog 25 #[.pointer (some ⟨b, 0, none⟩), .int .i32 97, .agg #[.int .u8 p.sort, .int .i64 p.n, .int .u64 p.u, .string p.s]] w (TkPost w b (x.cells.setIfInBounds 1 (.int .u64 p.u))) := by
  have hlt := (Array.getElem?_eq_some_iff.1 h).1
  have c0 := cell_in h 1 (.int .u64 x.acct) rfl
  have f0 := free_in h 1
  have H := Lib.hid (tk_end (.cells #[.int .u8 p.sort, .int .i64 p.n, .int .u64 p.u, .string p.s] 49) h 1 (.int .u64 p.u))
  clear h
  go_enter Tryd.func25, Tryd.ntmps25
  go_wp2
  refine bodyPost_ret (results_none rfl _ _ _) rfl ?_
  exact ⟨rfl, H.out.1, H.out.2⟩
theorem take_k {w : World} (b : Nat) (x : Th) (p : KPart) (h : w.heap[b]? = some (.cells x.cells 24 (0, 0))) :
    Calls Tryd.prog 25 #[.pointer (some ⟨b, 0, none⟩), .int .i32 107, .agg #[.int .u8 p.sort, .int .i64 p.n, .int .u64 p.u, .string p.s]] w (TkPost w b (x.cells.setIfInBounds 3 (.int .i64 (wrap64 (wrap32 p.n))))) := by
  have hlt := (Array.getElem?_eq_some_iff.1 h).1
  have c0 := cell_in h 3 (.int .i64 x.kind) rfl
  have f0 := free_in h 3
  have H := Lib.hid (tk_end (.cells #[.int .u8 p.sort, .int .i64 p.n, .int .u64 p.u, .string p.s] 49) h 3 (.int .i64 (wrap64 (wrap32 p.n))))
  clear h
  go_enter Tryd.func25, Tryd.ntmps25
  go_wp2
  refine bodyPost_ret (results_none rfl _ _ _) rfl ?_
  exact ⟨rfl, H.out.1, H.out.2⟩
theorem take_p {w : World} (b : Nat) (x : Th) (p : KPart) (h : w.heap[b]? = some (.cells x.cells 24 (0, 0))) :
    Calls Tryd.prog 25 #[.pointer (some ⟨b, 0, none⟩), .int .i32 112, .agg #[.int .u8 p.sort, .int .i64 p.n, .int .u64 p.u, .string p.s]] w (TkPost w b (x.cells.setIfInBounds 4 (.int .i64 p.n))) := by
  have hlt := (Array.getElem?_eq_some_iff.1 h).1
  have c0 := cell_in h 4 (.int .i64 x.price) rfl
  have f0 := free_in h 4
  have H := Lib.hid (tk_end (.cells #[.int .u8 p.sort, .int .i64 p.n, .int .u64 p.u, .string p.s] 49) h 4 (.int .i64 p.n))
  clear h
  go_enter Tryd.func25, Tryd.ntmps25
  go_wp2
  refine bodyPost_ret (results_none rfl _ _ _) rfl ?_
  exact ⟨rfl, H.out.1, H.out.2⟩
theorem take_r {w : World} (b : Nat) (x : Th) (p : KPart) (h : w.heap[b]? = some (.cells x.cells 24 (0, 0))) :
    Calls Tryd.prog 25 #[.pointer (some ⟨b, 0, none⟩), .int .i32 114, .agg #[.int .u8 p.sort, .int .i64 p.n, .int .u64 p.u, .string p.s]] w (TkPost w b (x.cells.setIfInBounds 5 (.int .u64 p.u))) := by
  have hlt := (Array.getElem?_eq_some_iff.1 h).1
  have c0 := cell_in h 5 (.int .u64 x.rank) rfl
  have f0 := free_in h 5
  have H := Lib.hid (tk_end (.cells #[.int .u8 p.sort, .int .i64 p.n, .int .u64 p.u, .string p.s] 49) h 5 (.int .u64 p.u))
  clear h
  go_enter Tryd.func25, Tryd.ntmps25
  go_wp2
  refine bodyPost_ret (results_none rfl _ _ _) rfl ?_
  exact ⟨rfl, H.out.1, H.out.2⟩
theorem take_i {w : World} (b : Nat) (x : Th) (p : KPart) (h : w.heap[b]? = some (.cells x.cells 24 (0, 0))) :
    Calls Tryd.prog 25 #[.pointer (some ⟨b, 0, none⟩), .int .i32 105, .agg #[.int .u8 p.sort, .int .i64 p.n, .int .u64 p.u, .string p.s]] w (TkPost w b (x.cells.setIfInBounds 2 (.int .u64 p.u))) := by
  have hlt := (Array.getElem?_eq_some_iff.1 h).1
  have c0 := cell_in h 2 (.int .u64 x.id) rfl
  have f0 := free_in h 2
  have H := Lib.hid (tk_end (.cells #[.int .u8 p.sort, .int .i64 p.n, .int .u64 p.u, .string p.s] 49) h 2 (.int .u64 p.u))
  clear h
  go_enter Tryd.func25, Tryd.ntmps25
  go_wp2
  refine bodyPost_ret (results_none rfl _ _ _) rfl ?_
  exact ⟨rfl, H.out.1, H.out.2⟩
theorem take_t {w : World} (b : Nat) (x : Th) (p : KPart) (h : w.heap[b]? = some (.cells x.cells 24 (0, 0))) :
    Calls Tryd.prog 25 #[.pointer (some ⟨b, 0, none⟩), .int .i32 116, .agg #[.int .u8 p.sort, .int .i64 p.n, .int .u64 p.u, .string p.s]] w (TkPost w b (x.cells.setIfInBounds 6 (.int .u64 p.u))) := by
  have hlt := (Array.getElem?_eq_some_iff.1 h).1
  have c0 := cell_in h 6 (.int .u64 x.time) rfl
  have f0 := free_in h 6
  have H := Lib.hid (tk_end (.cells #[.int .u8 p.sort, .int .i64 p.n, .int .u64 p.u, .string p.s] 49) h 6 (.int .u64 p.u))
  clear h
  go_enter Tryd.func25, Tryd.ntmps25
  go_wp2
  refine bodyPost_ret (results_none rfl _ _ _) rfl ?_
  exact ⟨rfl, H.out.1, H.out.2⟩
theorem take_n {w : World} (b : Nat) (x : Th) (p : KPart) (h : w.heap[b]? = some (.cells x.cells 24 (0, 0))) :
    Calls Tryd.prog 25 #[.pointer (some ⟨b, 0, none⟩), .int .i32 110, .agg #[.int .u8 p.sort, .int .i64 p.n, .int .u64 p.u, .string p.s]] w (TkPost w b (x.cells.setIfInBounds 7 (.string p.s))) := by
  have hlt := (Array.getElem?_eq_some_iff.1 h).1
  have c0 := cell_in h 7 (.string x.name) rfl
  have f0 := free_in h 7
  have H := Lib.hid (tk_end (.cells #[.int .u8 p.sort, .int .i64 p.n, .int .u64 p.u, .string p.s] 49) h 7 (.string p.s))
  clear h
  go_enter Tryd.func25, Tryd.ntmps25
  go_wp2
  refine bodyPost_ret (results_none rfl _ _ _) rfl ?_
  exact ⟨rfl, H.out.1, H.out.2⟩
theorem take_any {w : World} (b : Nat) (c : UInt8) (hc : Letter c) (x : Th) (p : KPart) (h : w.heap[b]? = some (.cells x.cells 24 (0, 0))) :
    Calls Tryd.prog 25 #[.pointer (some ⟨b, 0, none⟩), .int .i32 (c.toNat : Int), p.agg] w (TkPost w b (takeK c x p).cells) := by
  rcases hc with rfl | rfl | rfl | rfl | rfl | rfl | rfl
  · rw [takeK_a]; exact take_a b x p h
  · rw [takeK_k]; exact take_k b x p h
  · rw [takeK_p]; exact take_p b x p h
  · rw [takeK_r]; exact take_r b x p h
  · rw [takeK_i]; exact take_i b x p h
  · rw [takeK_t]; exact take_t b x p h
  · rw [takeK_n]; exact take_n b x p h
end Go.Proofs.YtelbhegkaihjhaaDoor
