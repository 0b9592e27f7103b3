/-
  Where each trade ended (Places): the iterator over the walks' iterator. Conditions: as each theorem states.
-/
import Derived.Test.YtligdamibjclnaaWkI
namespace Go.Proofs.Ytligdamibjclnaa.Wk
open Go.RowKit Go.Shelf
open Go.Proofs.Ytligdamibjclnaa
open Go.Proofs.Ytligdamibjclnaa.Rf
open Se Fl
attribute [local go_sem] Oper.semAt_some run_store_float run_store_complex

theorem places_any (A : Option Addr) (c : Nat) (l : List Trd) (hl : l.length ≤ 1000) (w : World) (R : TRow w A l) (hA : A = none → l.length = 0 ∧ c = 0) :
    Calls Try.prog 13 #[.slice A l.length c] w fun e w' => ∃ A2 c2 b, e = .returned (.func (.func 20) #[] #[.pointer (some ⟨b, 0, none⟩)]) ∧ w'.heap[b]? = some (.cells #[.slice A2 l.length c2] 22 (0, 0)) ∧
      TRow w' A2 l ∧ (∀ a, A2 = some a → w.heap.size ≤ a.block) ∧ w.heap.size ≤ b ∧ Below w.heap.size w w' := by
  have hb0 : Below w.heap.size w (w.alloc (.cells #[.slice A l.length c] 22)) := (Below.refl _ w).alloc (Nat.le_refl _) _
  have cC := Lib.hid (fun W R => clone_any A c l hl W R hA)
  have HR := Lib.hid (R.below hb0)
  have HB := Lib.hid hb0
  clear R hb0
  go_enter Try.func13, Try.ntmps13
  go_wp2_with (first
    | (go_at_call 19; (with_reducible refine (cC.out _ HR.out).mono ?_); rintro e w2 ⟨A2, c2, rfl, hr2, hf2, hb2⟩
       have hx2 : w2.heap[w.heap.size]? = some (.cells #[.slice A l.length c] 22 (0, 0)) := (hb2.block _ (by simp)).trans (heap_alloc_last w _)
       obtain ⟨x0, f0⟩ := cell1 hx2
       have HX := Lib.hid hx2
       have H2 := Lib.hid (And.intro hr2 (And.intro hf2 hb2))
       clear hr2 hf2 hb2 hx2))
  go_ret
  obtain ⟨hr2, hf2, hb2⟩ := H2.out
  have hs1 : (w.alloc (.cells #[.slice A l.length c] 22)).heap.size = w.heap.size + 1 := by simp
  rw [hs1] at hf2 hb2
  have hb : Below w.heap.size w w2 := HB.out.trans (hb2.mono (by omega))
  refine ⟨A2, c2, w.heap.size, rfl, set1_row HX.out _, trow_heap hr2 (by simp) (fun a e => ?_), fun a e => by have := hf2 a e; omega, Nat.le_refl _, hb.setCell (p := ⟨w.heap.size, 0, none⟩) (Nat.le_refl _) _⟩
  exact Below.heap_setCell w2 ⟨w.heap.size, 0, none⟩ _ a.block (fun e2 => by have := hf2 a e; simp at e2; omega)
def encC (p : Pw) : Array Value := #[.complex .f64 p.pos.re p.pos.im]
theorem two_ends {e : Ending} {A B : Prop} (h : (e = .returned (.bool true) ∧ A) ∨ (e = .returned (.bool false) ∧ B)) : ∃ bb, e = .returned (.bool bb) ∧ ((bb = true ∧ A) ∨ (bb = false ∧ B)) := by
  rcases h with ⟨h, a⟩ | ⟨h, b⟩
  · exact ⟨true, h, .inl ⟨rfl, a⟩⟩
  · exact ⟨false, h, .inr ⟨rfl, b⟩⟩
set_option maxRecDepth 100000 in
set_option maxHeartbeats 2000000 in
theorem places_seq (n : Nat) (hn : 3 ≤ n) {w : World} {bq : Nat} {A : Option Addr} {c : Nat} {l : List Trd} {S : List Nat} (hl : l.length ≤ 1000)
    (hbq : w.heap[bq]? = some (.cells #[.slice A l.length c] 22 (0, 0))) (hRo : TRow w A l) (hS : 0 < l.length → ∀ a, A = some a → a.block ∉ S) (hSw : ∀ k ∈ S, k < w.heap.size) :
    SeqV Fence.wide n Try.prog 20 #[.pointer (some ⟨bq, 0, none⟩)] encC (KeepsA S w.heap.size) (pwalk begW 0 l) w := fun lp J Jx W hW hJ hJx hY h0 => by
  have hsW := hW.size
  have hbql : bq < w.heap.size := (Array.getElem?_eq_some_iff.1 hbq).1
  have hb1 : Below W.heap.size W (W.alloc (.cells #[.func (.yield lp) #[] #[]] 55)) := (Below.refl _ W).alloc (Nat.le_refl _) _
  have hbw : Below w.heap.size w (W.alloc (.cells #[.func (.yield lp) #[] #[]] 55)) := hW.trans (hb1.mono hsW)
  have hcb : (W.alloc (.cells #[.func (.yield lp) #[] #[]] 55)).cell? ⟨bq, 0, none⟩ = some (.slice A l.length c) := (cell1 ((hbw.block bq hbql).trans hbq)).1
  have hy0 : (W.alloc (.cells #[.func (.yield lp) #[] #[]] 55)).heap[W.heap.size]? = some (.cells #[.func (.yield lp) #[] #[]] 55 (0, 0)) := heap_alloc_new W _
  have hsz : (W.alloc (.cells #[.func (.yield lp) #[] #[]] 55)).heap.size = W.heap.size + 1 := by simp
  have hJ0 : J [] (W.alloc (.cells #[.func (.yield lp) #[] #[]] 55)) := hJ.alloc _ h0
  have hn1 : 1 ≤ n := by omega
  have HP := Lib.hid (fun W' => paths_any A l.length c W')
  have HR1 := Lib.hid (hRo.below hbw)
  have HB1 := Lib.hid hb1
  clear hbw hb1 hRo
  refine callsIn_of_wp_marks Try.func20 rfl trivial ?_ rfl
  simp only [Try.ntmps20, List.size_toArray, List.length_cons, List.length_nil, Nat.reduceAdd, Nat.reduceSub, Array.replicate_succ, Array.replicate_zero, List.push_toArray, List.append_toArray, List.nil_append, List.cons_append]
  gi_wp2_with (first
    | (refine ⟨trivial, ?_⟩; gi_at_call 18; refine (callsIn_wide.2 (HP.out _)).mono ?_; rintro e w2 ⟨rfl, rfl⟩))
  have hs2 : ((W.alloc (.cells #[.func (.yield lp) #[] #[]] 55)).alloc (.cells #[.slice A l.length c] 22)).heap.size = W.heap.size + 2 := by simp
  refine range_v rfl hn1 (gf := 28) (lb := #[.pointer (some ⟨W.heap.size + 1, 0, none⟩)]) rfl trivial (enters_of Try.func28 (by kernel_rfl) rfl)
    (w0 := (W.alloc (.cells #[.func (.yield lp) #[] #[]] 55)).alloc (.cells #[.slice A l.length c] 22))
    (paths_seq (n - 1) (by omega) (S := S) hl (by have h := heap_alloc_last (W.alloc (.cells #[.func (.yield lp) #[] #[]] 55)) (.cells #[.slice A l.length c] 22); rwa [World.size_alloc] at h) (HR1.out.below ((Below.refl _ _).alloc (Nat.le_refl _) _))
      hS (fun k hk => by rw [hs2]; have := hSw k hk; omega)) KeepsA.t (fun W l o o' _ h2 h3 _ => keepsA_b W l o o' h2 h3) (Below.refl _ _) (fun _ => rfl)
    (fun pre X => J pre X ∧ X.heap[W.heap.size]? = some (.cells #[.func (.yield lp) #[] #[]] 55 (0, 0)) ∧ W.heap.size + 2 ≤ X.heap.size) (fun cd pre X => cd = .ret ∧ Jx pre X)
    (fun s A C row ⟨h1, h2, h3⟩ hg hr => ⟨hJ s A C row h1 hg (fun r e => by have := hr r e; rw [hs2] at this; omega), free_block hg hr (by rw [hs2]; omega) h2, Nat.le_trans h3 hg.size⟩)
    (fun cd s A C row ⟨h1, h2⟩ hg hr => ⟨h1, hJx s A C row h2 hg (fun r e => by have := hr r e; rw [hs2] at this; omega)⟩)
    ⟨hJ.alloc _ hJ0, (Below.heap_alloc _ _ _ (by rw [hsz]; omega)).trans hy0, by rw [hs2]; omega⟩
    (Ax (W.heap.size + 2) fun b x => { tmps := #[.func (.yield lp) #[] #[], .pointer (some ⟨bq, 0, none⟩), .pointer (some ⟨W.heap.size, 0, none⟩), .pointer (some ⟨b, 0, none⟩), .slice A l.length c, .func (.func 28) #[] #[.pointer (some ⟨W.heap.size + 1, 0, none⟩)], .agg #[.complex .f64 x.pos.re x.pos.im, .complex .f64 x.hd.re x.hd.im, .int .i64 x.st, .complex .f64 x.lo.re x.lo.im, .complex .f64 x.hi.re x.hi.im], undef, undef, undef, undef, undef], defers := [] })
    (fun x a' => ax_own _ _ _ _ _) ?assign ?body ?done ?stop
  case assign =>
    rintro lp2 pre x X K ⟨i1, i2, i3⟩ _ hK
    dsimp only [encW]
    gi_wp2
    have hbn : Below X.heap.size X (X.alloc (.cells (pcs x) 26)) := (Below.refl _ X).alloc (Nat.le_refl _) _
    exact hK _ (X.alloc (.cells (pcs x) 26)) ⟨hJ.alloc _ i1, hp_on' i2 hbn, by simp; omega⟩
      (keepsFrom_below hbn) (KeepsA.of_below hbn) ⟨_, i3, heap_alloc_last X _, rfl⟩
  case body =>
    rintro lp2 pre x a' X ⟨i1, i2, i3⟩ hpre ⟨b, hb, hx, rfl⟩
    obtain ⟨⟨d0, d1, d2, d3, d4⟩, -⟩ := row5 hx
    obtain ⟨y0, -⟩ := cell1 i2
    obtain ⟨fn, tmps, assign, body, hy, hR⟩ := hY pre x X i1 hpre
    dsimp only [encC] at hy
    have HI2 := Lib.hid i2
    have HI3 := Lib.hid i3
    clear i1 i2 d1 d2 d3 d4
    have hn2 : 1 ≤ n - 1 - 1 := by omega
    gi_wp2_with (first
      | (refine (round_any (m' := n - 1 - 1 - 1) (show (Fence.wide.inRound lp2).depth = none from rfl) hR).mono ?_; rintro r W4 h; obtain ⟨bb, rfl, H4⟩ := two_ends h; replace H4 := Lib.hid H4; clear h))
    all_goals
      rcases H4.out with ⟨e, hJ4, hk4, hkf4⟩ | ⟨e, hx4, hkf4⟩
      · first
          | exact ⟨KeepsFrom.up hkf4 (by simp; omega), fun k c t fr h1 h2 => hk4 k c t fr h1 h2, hJ4, hk4 _ _ _ _ (fun hm => by have := hSw _ hm; omega) HI2.out, Nat.le_trans HI3.out hkf4.size⟩
          | simp_all
      · first
          | exact ⟨KeepsFrom.up hkf4 (by simp; omega), rfl, hx4⟩
          | simp_all
  case done =>
    rintro D X hD ⟨i1, i2, i3⟩ hK
    gi_wp2
    refine ⟨by simp, .inl ⟨_, _, rfl, run_takeDeferred hK, ?_⟩⟩
    exact ⟨_, results_none rfl _ _ _, ⟨_, rfl⟩, .inl (hJ.putObj _ i1 (by rw [hs2] at hD; omega))⟩
  case stop =>
    rintro D cd pre X hD hpre ⟨rfl, hx⟩ hK
    gi_wp2
    refine ⟨by simp, .inl ⟨_, _, rfl, run_takeDeferred hK, ?_⟩⟩
    exact ⟨_, results_none rfl _ _ _, ⟨_, rfl⟩, .inr ⟨pre, hpre, hJx.putObj _ hx (by rw [hs2] at hD; omega)⟩⟩
end Go.Proofs.Ytligdamibjclnaa.Wk
