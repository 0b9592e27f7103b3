/-
  A skip list that is none: the Go text walked. Conditions: as each theorem states.
-/
import Derived.Test.YtfbfclejegajpaaSkK
namespace Go.Proofs.Ytfbfclejegajpaa.Sk
open Go.RowKit Go.Shelf
open Go.Proofs.Ytfbfclejegajpaa.Rf

attribute [local go_sem] Oper.semAt_some

theorem put_nil (k x : ByteArray) (h : Int) (w : World) : Calls Try.prog 10 #[.pointer none, .string k, .string x, .int .i64 h] w fun e w' => e = .returned (.int .i64 1) ∧ w = w' := by
  go_enter Try.func10, Try.ntmps10
  go_wp2
  go_ret
  exact ⟨rfl, rfl⟩
theorem get_nil (k : ByteArray) (w : World) : Calls Try.prog 12 #[.pointer none, .string k] w fun e w' => e = .returned (.tuple #[.string ⟨#[]⟩, .bool false]) ∧ w = w' := by
  go_enter Try.func12, Try.ntmps12
  go_wp2
  go_ret2
  exact ⟨rfl, rfl⟩
theorem len_nil (w : World) : Calls Try.prog 15 #[.pointer none] w fun e w' => e = .returned (.int .i64 0) ∧ w = w' := by
  go_enter Try.func15, Try.ntmps15
  go_wp2
  go_ret
  exact ⟨rfl, rfl⟩
theorem bytes_nil (w : World) : Calls Try.prog 16 #[.pointer none] w fun e w' => e = .returned (.int .i64 0) ∧ w = w' := by
  go_enter Try.func16, Try.ntmps16
  go_wp2
  go_ret
  exact ⟨rfl, rfl⟩
theorem steps_nil (w : World) : Calls Try.prog 14 #[.pointer none] w fun e w' => e = .returned (.int .i64 0) ∧ w = w' := by
  go_enter Try.func14, Try.ntmps14
  go_wp2
  go_ret
  exact ⟨rfl, rfl⟩
theorem height_nil (k : ByteArray) (w : World) : Calls Try.prog 18 #[.pointer none, .string k] w fun e w' => e = .returned (.int .i64 0) ∧ w = w' := by
  go_enter Try.func18, Try.ntmps18
  go_wp2
  go_ret
  exact ⟨rfl, rfl⟩
theorem from_nil (w : World) (k : ByteArray) :
    Calls Try.prog 23 #[.pointer none, .string k] w fun e w' => e = .returned (.func (.func 31) #[] #[.pointer (some ⟨w.heap.size, 0, none⟩), .pointer (some ⟨w.heap.size + 1, 0, none⟩)]) ∧ w' = (w.alloc (.cells #[.pointer none] 25)).alloc (.cells #[.string k] 9) := by
  go_enter Try.func23, Try.ntmps23
  go_wp2
  go_ret
  exact ⟨rfl, rfl⟩
theorem down_nil (w : World) (k : ByteArray) :
    Calls Try.prog 24 #[.pointer none, .string k] w fun e w' => e = .returned (.func (.func 32) #[] #[.pointer (some ⟨w.heap.size, 0, none⟩), .pointer (some ⟨w.heap.size + 1, 0, none⟩)]) ∧ w' = (w.alloc (.cells #[.pointer none] 25)).alloc (.cells #[.string k] 9) := by
  go_enter Try.func24, Try.ntmps24
  go_wp2
  go_ret
  exact ⟨rfl, rfl⟩
/-- no list gives nothing -/
theorem none_turns (gf : Nat) (hgf : gf = 31 ∨ gf = 32) (n : Nat) {bl bk : Nat} {w : World} (hbl : w.heap[bl]? = some (.cells #[.pointer none] 25 (0, 0))) :
    SeqTurns (α := Pr) Fence.wide n Try.prog gf #[.pointer (some ⟨bl, 0, none⟩), .pointer (some ⟨bk, 0, none⟩)] encP (fun _ _ => False) (fun _ _ => True) (fun xs => xs = []) (fun pre => pre <+: []) ([] : List Pr).length w := fun lp J Jx W hW hJ hJx hJT hY h0 => by
  have hcl := cell_in ((hW.block bl (Array.getElem?_eq_some_iff.1 hbl).1).trans hbl) 0 (.pointer none) rfl
  rcases hgf with rfl | rfl
  · refine callsIn_of_wp Try.func31 rfl trivial ?_ rfl
    simp only [Try.ntmps31, List.size_toArray, List.length_cons, List.length_nil, Nat.reduceAdd, Nat.reduceSub, Array.replicate_succ, Array.replicate_zero, List.push_toArray, List.append_toArray, List.nil_append, List.cons_append]
    gi_wp2
    refine bodyPost_ret (results_none rfl _ _ _) rfl ?_
    exact ⟨⟨_, rfl⟩, .inl h0⟩
  · refine callsIn_of_wp Try.func32 rfl trivial ?_ rfl
    simp only [Try.ntmps32, List.size_toArray, List.length_cons, List.length_nil, Nat.reduceAdd, Nat.reduceSub, Array.replicate_succ, Array.replicate_zero, List.push_toArray, List.append_toArray, List.nil_append, List.cons_append]
    gi_wp2
    refine bodyPost_ret (results_none rfl _ _ _) rfl ?_
    exact ⟨⟨_, rfl⟩, .inl h0⟩
theorem rowNone (gf : Nat) (hgf : gf = 31 ∨ gf = 32) {w W : World} (k : ByteArray) (hW : W = (w.alloc (.cells #[.pointer none] 25)).alloc (.cells #[.string k] 9)) {mi : Int} {m : Nat} (hmi : mi = (m : Nat)) (hm : m ≤ 9223372036854775807) :
    Calls Try.prog 22 #[.func (.func gf) #[] #[.pointer (some ⟨w.heap.size, 0, none⟩), .pointer (some ⟨w.heap.size + 1, 0, none⟩)], .int .i64 mi] W fun e w' => (∃ a c, e = .returned (.slice a 0 c)) ∧ Below W.heap.size W w' := by
  subst hW hmi
  have hbl : ((w.alloc (.cells #[.pointer none] 25)).alloc (.cells #[.string k] 9)).heap[w.heap.size]? = some (.cells #[.pointer none] 25 (0, 0)) := (Below.heap_alloc _ _ _ (by simp)).trans (heap_alloc_new w _)
  refine (callsIn_wide.1 (row_in 3 (by omega) [] (by simp) m hm (fp := []) (Tn := fun _ _ => False) (Kp := fun _ _ => True) (Inv := fun _ => True) (by rcases hgf with rfl | rfl; exact enters_of Try.func31 (by kernel_rfl) rfl; exact enters_of Try.func32 (by kernel_rfl) rfl) (fun W hb => none_turns gf hgf 2 ((hb.block _ (by simp; omega)).trans hbl))
    ⟨(by intro k hk; cases hk), (by intro A B h; exact h.elim), (by intro A B C _ _; trivial), (by intro A B _; trivial), trivial, (by intros; trivial), (by intros; trivial)⟩)).mono ?_
  rintro e w' ⟨vv, he, hr, ho, _⟩
  obtain ⟨a, c, rfl⟩ := row_slice hr
  exact ⟨⟨a, c, by rw [he]; simp⟩, ho.os, ho.tape, ho.output, ho.size, fun k hk => ho.block k hk (by simp)⟩
end Go.Proofs.Ytfbfclejegajpaa.Sk
