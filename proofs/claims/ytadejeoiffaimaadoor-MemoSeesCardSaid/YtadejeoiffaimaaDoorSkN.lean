/-
  A skip list that is none: the Go text walked. Conditions: as each theorem states.
-/
import Derived.Test.YtadejeoiffaimaaDoorSkK
namespace Go.Proofs.YtadejeoiffaimaaDoor.Sk
open Go.RowKit Go.Shelf
open Go.Proofs.YtadejeoiffaimaaDoor.Rf

attribute [local go_sem] Oper.semAt_some

theorem put_nil (k x : ByteArray) (h : Int) (w : World) : Calls Tryd.prog 22 #[.pointer none, .string k, .string x, .int .i64 h] w fun e w' => e = .returned (.int .i64 1) ∧ w = w' := by
  go_enter Tryd.func22, Tryd.ntmps22
  go_wp2
  go_ret
  exact ⟨rfl, rfl⟩
theorem len_nil (w : World) : Calls Tryd.prog 30 #[.pointer none] w fun e w' => e = .returned (.int .i64 0) ∧ w = w' := by
  go_enter Tryd.func30, Tryd.ntmps30
  go_wp2
  go_ret
  exact ⟨rfl, rfl⟩
theorem bytes_nil (w : World) : Calls Tryd.prog 31 #[.pointer none] w fun e w' => e = .returned (.int .i64 0) ∧ w = w' := by
  go_enter Tryd.func31, Tryd.ntmps31
  go_wp2
  go_ret
  exact ⟨rfl, rfl⟩
theorem from_nil (w : World) (k : ByteArray) :
    Calls Tryd.prog 41 #[.pointer none, .string k] w fun e w' => e = .returned (.func (.func 55) #[] #[.pointer (some ⟨w.heap.size, 0, none⟩), .pointer (some ⟨w.heap.size + 1, 0, none⟩)]) ∧ w' = (w.alloc (.cells #[.pointer none] 44)).alloc (.cells #[.string k] 9) := by
  go_enter Tryd.func41, Tryd.ntmps41
  go_wp2
  go_ret
  exact ⟨rfl, rfl⟩
theorem down_nil (w : World) (k : ByteArray) :
    Calls Tryd.prog 33 #[.pointer none, .string k] w fun e w' => e = .returned (.func (.func 48) #[] #[.pointer (some ⟨w.heap.size, 0, none⟩), .pointer (some ⟨w.heap.size + 1, 0, none⟩)]) ∧ w' = (w.alloc (.cells #[.pointer none] 44)).alloc (.cells #[.string k] 9) := by
  go_enter Tryd.func33, Tryd.ntmps33
  go_wp2
  go_ret
  exact ⟨rfl, rfl⟩
/-- no list gives nothing -/
theorem none_turns (gf : Nat) (hgf : gf = 55 ∨ gf = 48) (n : Nat) {bl bk : Nat} {w : World} (hbl : w.heap[bl]? = some (.cells #[.pointer none] 44 (0, 0))) :
    SeqTurns (α := Pr) Fence.wide n Tryd.prog gf #[.pointer (some ⟨bl, 0, none⟩), .pointer (some ⟨bk, 0, none⟩)] encP (fun _ _ => False) (fun _ _ => True) (fun xs => xs = []) (fun pre => pre <+: []) ([] : List Pr).length w := fun lp J Jx W hW hJ hJx hJT hY h0 => by
  have hcl := cell_in ((hW.block bl (Array.getElem?_eq_some_iff.1 hbl).1).trans hbl) 0 (.pointer none) rfl
  rcases hgf with rfl | rfl
  · refine callsIn_of_wp Tryd.func55 rfl trivial ?_ rfl
    simp only [Tryd.ntmps55, List.size_toArray, List.length_cons, List.length_nil, Nat.reduceAdd, Nat.reduceSub, Array.replicate_succ, Array.replicate_zero, List.push_toArray, List.append_toArray, List.nil_append, List.cons_append]
    gi_wp2
    refine bodyPost_ret (results_none rfl _ _ _) rfl ?_
    exact ⟨⟨_, rfl⟩, .inl h0⟩
  · refine callsIn_of_wp Tryd.func48 rfl trivial ?_ rfl
    simp only [Tryd.ntmps48, List.size_toArray, List.length_cons, List.length_nil, Nat.reduceAdd, Nat.reduceSub, Array.replicate_succ, Array.replicate_zero, List.push_toArray, List.append_toArray, List.nil_append, List.cons_append]
    gi_wp2
    refine bodyPost_ret (results_none rfl _ _ _) rfl ?_
    exact ⟨⟨_, rfl⟩, .inl h0⟩
theorem rowNone (gf : Nat) (hgf : gf = 55 ∨ gf = 48) {w W : World} (k : ByteArray) (hW : W = (w.alloc (.cells #[.pointer none] 44)).alloc (.cells #[.string k] 9)) {mi : Int} {m : Nat} (hmi : mi = (m : Nat)) (hm : m ≤ 9223372036854775807) :
    Calls Tryd.prog 51 #[.func (.func gf) #[] #[.pointer (some ⟨w.heap.size, 0, none⟩), .pointer (some ⟨w.heap.size + 1, 0, none⟩)], .int .i64 mi] W fun e w' => (∃ a c, e = .returned (.slice a 0 c)) ∧ Below W.heap.size W w' := by
  subst hW hmi
  have hbl : ((w.alloc (.cells #[.pointer none] 44)).alloc (.cells #[.string k] 9)).heap[w.heap.size]? = some (.cells #[.pointer none] 44 (0, 0)) := (Below.heap_alloc _ _ _ (by simp)).trans (heap_alloc_new w _)
  refine (callsIn_wide.1 (row_in 3 (by omega) [] (by simp) m hm (fp := []) (Tn := fun _ _ => False) (Kp := fun _ _ => True) (Inv := fun _ => True) (by rcases hgf with rfl | rfl; exact enters_of Tryd.func55 (by kernel_rfl) rfl; exact enters_of Tryd.func48 (by kernel_rfl) rfl) (fun W hb => none_turns gf hgf 2 ((hb.block _ (by simp; omega)).trans hbl))
    ⟨(by intro k hk; cases hk), (by intro A B h; exact h.elim), (by intro A B C _ _; trivial), (by intro A B _; trivial), trivial, (by intros; trivial), (by intros; trivial)⟩)).mono ?_
  rintro e w' ⟨vv, he, hr, ho, _⟩
  obtain ⟨a, c, rfl⟩ := row_slice hr
  exact ⟨⟨a, c, by rw [he]; simp⟩, ho.os, ho.tape, ho.output, ho.size, fun k hk => ho.block k hk (by simp)⟩
end Go.Proofs.YtadejeoiffaimaaDoor.Sk
