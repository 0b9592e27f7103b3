/-
  A place told in floats, a walk's box, the ends of a row of numbers: walked. Conditions: as each theorem states.
-/
import Derived.Test.YtligdamibjclnaaWkH
import Derived.Test.YtligdamibjclnaaWkS
namespace Go.Proofs.Ytligdamibjclnaa.Wk
open Go.RowKit Go.Shelf
open Go.Proofs.Ytligdamibjclnaa
open Se Fl
attribute [local go_sem] run_store_float run_store_complex

theorem place_any (x y : Int) (w : World) : Calls Try.prog 11 #[.int .i64 x, .int .i64 y] w fun e w' => e = .returned (.complex .f64 (floatOfInt .f64 x) (floatOfInt .f64 y)) ∧ w' = w := by
  go_enter Try.func11, Try.ntmps11
  go_wp2
  go_ret
  exact ⟨rfl, rfl⟩
theorem box_any {p : Pw} {z : Pz} {k : Nat} (h : PF p z k) (hb : Bz z k) (hk : k ≤ 1000) (w : World) :
    Calls Try.prog 10 #[.agg #[.complex .f64 p.pos.re p.pos.im, .complex .f64 p.hd.re p.hd.im, .int .i64 p.st, .complex .f64 p.lo.re p.lo.im, .complex .f64 p.hi.re p.hi.im]] w
      fun e w' => e = .returned (.tuple #[.int .i64 (z.hx - z.lx), .int .i64 (z.hy - z.ly)]) ∧ Below w.heap.size w w' := by
  obtain ⟨⟨a1, a2⟩, ⟨a3, a4⟩, ⟨a5, a6⟩, ⟨a7, a8⟩⟩ := hb
  obtain ⟨r, i, e, f1, f2⟩ := cx_sub h.hi.1 h.hi.2 h.lo.1 h.lo.2 (by omega) (by omega)
  have v1 := fl_toInt f1 .i64 (by show (-9223372036854775808 : Int) ≤ _; omega) (by show _ ≤ (9223372036854775807 : Int); omega)
  have v2 := fl_toInt f2 .i64 (by show (-9223372036854775808 : Int) ≤ _; omega) (by show _ ≤ (9223372036854775807 : Int); omega)
  have r0 : ∀ W, (binOp .sub 24 (.complex .f64 p.hi.re p.hi.im) (.complex .f64 p.lo.re p.lo.im)).run Try.prog W = .ok (.complex .f64 r i) W := fun W => run_complex_sum W .sub (.inr rfl) _ _ _ _ _ _ _ _ e
  have r1 : ∀ W, (convert 48 3 (.float .f64 r)).run Try.prog W = .ok (.int .i64 (z.hx - z.lx)) W := fun W => run_convert_float_int W _ _ _ _ _ _ (by rw [Try.underlying48]; rfl) Try.underlying3 v1
  have r2 : ∀ W, (convert 48 3 (.float .f64 i)).run Try.prog W = .ok (.int .i64 (z.hy - z.ly)) W := fun W => run_convert_float_int W _ _ _ _ _ _ (by rw [Try.underlying48]; rfl) Try.underlying3 v2
  clear e f1 f2 v1 v2 a1 a2 a3 a4 a5 a6 a7 a8
  go_enter Try.func10, Try.ntmps10
  go_wp2
  refine bodyPost_ret (v := .tuple #[.int .i64 (z.hx - z.lx), .int .i64 (z.hy - z.ly)]) ?_ rfl ⟨rfl, (Below.refl _ w).alloc (Nat.le_refl _) _⟩
  simp [results, Try.results10, go_sem]
/-- a row of numbers (int) -/
def IRow (W : World) (ao : Option Addr) (l : List Int) : Prop := 0 < l.length → ∃ a, ao = some a ∧ a.block < W.heap.size ∧ ∀ i (hi : i < l.length), W.cell? (a.add i) = some (.int .i64 l[i])
theorem ends_any (A : Option Addr) (c : Nat) (l : List Int) (hl : l.length ≤ 1000) (hr : ∀ x ∈ l, -1000000 ≤ x ∧ x ≤ 1000000) (w : World) (R : IRow w A l) :
    Calls Try.prog 9 #[.slice A l.length c] w fun e w' => e = .returned (.tuple #[.int .i64 (ends l).1, .int .i64 (ends l).2]) ∧ w' = w := by
  have HR := Lib.hid R
  clear R
  go_enter Try.func9, Try.ntmps9
  go_wp2
  go_loopw [4, 5, 10] (fun lo hi i wr => ∃ k : Nat, k ≤ l.length ∧ i = .int .i64 k ∧ lo = .int .i64 (ends (l.take k)).1 ∧ hi = .int .i64 (ends (l.take k)).2 ∧ wr = w) (fun _ _ i _ => l.length - (intOf i).toNat)
  case atStart => exact ⟨0, by omega, rfl, rfl, rfl, rfl⟩
  case round =>
    obtain ⟨k, hk, rfl, rfl, rfl, rfl⟩ := hrel
    by_cases h1 : k < l.length
    · obtain ⟨a, rfl, hab, hc⟩ := HR.out (by omega)
      have x0 := hc k h1
      have hrg := hr l[k] (List.getElem_mem h1)
      have HE : Hid (ends (l.take (k + 1)) = (min (ends (l.take k)).1 l[k], max (ends (l.take k)).2 l[k])) := by rw [Hid, List.take_succ_eq_append_getElem h1, ends_snoc]
      clear hc
      generalize l[k] = y at *
      generalize ends (l.take k) = s at *
      obtain ⟨s1, s2⟩ := s
      simp only at HE
      by_cases h2 : y < s1 <;> by_cases h3 : y > s2
      all_goals
        go_wp2
        go_roundw
        case rel => exact ⟨k + 1, by omega, by go_num, by rw [HE.out]; congr 1; simp only; omega, by rw [HE.out]; congr 1; simp only; omega, trivial⟩
        case measure => simp [intOf]; omega
    · obtain rfl : k = l.length := by omega
      rw [List.take_length]
      go_wp2
      refine bodyPost_ret (v := .tuple #[.int .i64 (ends l).1, .int .i64 (ends l).2]) ?_ rfl ⟨rfl, rfl⟩
      simp [results, Try.results9, go_sem]
/-! ## the trades copied -/
theorem infoTr : (Try.prog.info? 46).map (fun i => (i.zero, i.size, i.bytes)) = some (some (.agg #[.int .u64 0, .int .u64 0, .int .i64 0, .int .i64 0]), 4, 32) := by kernel_rfl
theorem below_made {W w5 : World} {o : Obj} (h : (W.alloc o).grownBy w5 (some W.heap.size)) : Below W.heap.size W w5 := by
  have hb : Below W.heap.size W (W.alloc o) := (Below.refl _ W).alloc (Nat.le_refl _) o
  exact hb.trans ⟨h.os, h.tape, h.output, h.size, fun k hk => h.block k (Nat.lt_of_lt_of_le hk hb.size) (fun e => by injection e with e; omega)⟩
theorem nil_tr (A : Option Addr) (n c : Nat) (W : World) : (binOp .eql 22 (.slice A n c) (.slice none 0 0)).run Try.prog W = .ok (.bool A.isNone) W := by
  simp only [binOp]
  simp [run_equal_slice_nil W _ _ A n c Try.underlying22]
theorem tCells_one (l : List Trd) : ∀ u ∈ tCells l, u.oneCell' = true := by
  intro u hu
  obtain ⟨t, _, ht⟩ := List.mem_flatMap.1 hu
  simp [tq] at ht
  rcases ht with rfl | rfl | rfl | rfl <;> rfl
theorem own_lit (w : World) (T : TypeId) : (w.alloc (.cells #[] T)).ownsRow w.heap.size T 4 (.slice (some ⟨w.heap.size, 0, none⟩) 0 0) 0 [] := World.ownsRow_lit w #[] 0 (Nat.le_refl _) (by unfold maxLen; omega) rfl
theorem clone_any (A : Option Addr) (c : Nat) (l : List Trd) (hl : l.length ≤ 1000) (w : World) (R : TRow w A l) (hA : A = none → l.length = 0 ∧ c = 0) :
    Calls Try.prog 19 #[.slice A l.length c] w fun e w' => ∃ A2 c2, e = .returned (.slice A2 l.length c2) ∧ TRow w' A2 l ∧ (∀ a, A2 = some a → w.heap.size ≤ a.block) ∧ Below w.heap.size w w' := by
  obtain ⟨i0, hi, hz0, hz1, hz2⟩ := info_parts infoTr
  cases A with
  | none =>
    have hn : ∀ W, (binOp .eql 22 (.slice none 0 0) (.slice none 0 0)).run Try.prog W = .ok (.bool true) W := fun W => nil_tr none 0 0 W
    obtain ⟨h1, rfl⟩ := hA rfl
    obtain rfl : l = [] := List.eq_nil_of_length_eq_zero h1
    simp only [List.length_nil]
    go_enter Try.func19, Try.ntmps19
    go_wp2
    go_ret
    exact ⟨none, ⟨0, rfl⟩, fun h => absurd h (by decide), (fun a e => by cases e), Below.refl _ _⟩
  | some a =>
    have hn : ∀ W, (binOp .eql 22 (.slice (some a) l.length c) (.slice none 0 0)).run Try.prog W = .ok (.bool false) W := fun W => nil_tr (some a) l.length c W
    have HI := Lib.hid (And.intro hi (And.intro hz0 (And.intro hz1 hz2)))
    clear hi hz0 hz1 hz2
    have HR := Lib.hid R
    clear R
    have hb : Below w.heap.size w (w.alloc (.cells #[] 46)) := (Below.refl _ w).alloc (Nat.le_refl _) _
    have HB := Lib.hid hb
    clear hb
    go_enter Try.func19, Try.ntmps19
    go_wp2_with (first
      | (at_builtin
         refine wpList_append_own _ rfl (.tmp 5) (.tmp 6) 22 rfl w.heap.size 46 i0 _ 4 32 Try.underlying22 HI.out.1 HI.out.2.1 HI.out.2.2.1 HI.out.2.2.2 rfl (by decide) (.slice (some ⟨w.heap.size, 0, none⟩) 0 0) 0 [] rfl (own_lit w _) a l.length c (tCells l) rfl (tCells_len l) (trow_cells (HR.out.below HB.out) a rfl) (tCells_one l) (by unfold maxLen; omega) (by omega) (by simp) ?_
         intro v7 w7 hown7 hg7 _
         obtain ⟨A2, c2, rfl, R2⟩ := trow_of (l := l) (by simpa using hown7)
         have HR2 := Lib.hid R2
         have HF2 : Hid (∀ a, A2 = some a → w.heap.size ≤ a.block) := Lib.hid (fun a e => by subst e; exact (hown7.lt a.block rfl).1)
         have HB2 := Lib.hid (below_made hg7)
         clear hown7 hg7 R2))
    go_ret
    exact ⟨A2, c2, rfl, HR2.out, HF2.out, HB2.out⟩

end Go.Proofs.Ytligdamibjclnaa.Wk
