/-
  Entries out of a list's pairs, within any loop: the iterator's Go text walked. Conditions: as each theorem states.
-/
import Derived.Test.YtadejeoiffaimaaDoorMeD
import Derived.Test.YtadejeoiffaimaaDoorRfY
namespace Go.Proofs.YtadejeoiffaimaaDoor.Me
open Go.RowKit Go.Shelf
open Vi
open Go.Proofs.YtadejeoiffaimaaDoor.Rf
open Go.Proofs.YtadejeoiffaimaaDoor.Sk (feet Lst Moves Only encP)

attribute [local go_sem] Oper.semAt_some

def encE (e : En) : Array Value := #[.agg #[.string e.key, .int .u64 e.seq, .int .i64 e.kind, .string e.val]]
/-- what a round keeps: all that lay below B but for S, and the boxes of yields from there on -/
def KeepsC (S : List Nat) (B : Nat) (A C : World) : Prop := (∀ k, k < B → k ∉ S → C.heap[k]? = A.heap[k]?) ∧ ∀ k c fr, B ≤ k → A.heap[k]? = some (.cells c 85 fr) → C.heap[k]? = some (.cells c 85 fr)
theorem KeepsC.t {S : List Nat} {B : Nat} {X Y Z : World} (h : KeepsC S B X Y) (k : KeepsC S B Y Z) : KeepsC S B X Z :=
  ⟨fun j h1 h2 => (k.1 j h1 h2).trans (h.1 j h1 h2), fun j c fr h1 h2 => k.2 j c fr h1 (h.2 j c fr h1 h2)⟩
theorem KeepsC.refl (S : List Nat) (B : Nat) (X : World) : KeepsC S B X X := ⟨fun _ _ _ => rfl, fun _ _ _ _ h => h⟩
theorem KeepsC.of_below {S : List Nat} {B : Nat} {X Y : World} (h : Below X.heap.size X Y) (hB : B ≤ X.heap.size) : KeepsC S B X Y :=
  ⟨fun k h1 _ => h.block k (by omega), fun k c fr _ h2 => (h.block k (Array.getElem?_eq_some_iff.1 h2).1).trans h2⟩
theorem keepsC_b {S : List Nat} {B : Nat} (W : World) (l : Nat) (o o' : Obj) (hl : B ≤ l) (h : W.heap[l]? = some o) (hc : o.isCells = false) : KeepsC S B W (W.putObj l o') :=
  ⟨fun k h1 _ => World.putObj_heap_other (by omega), fun k c fr h1 h2 => by
    by_cases hk : k = l
    · subst hk; rw [h] at h2; cases h2; cases hc
    · exact (World.putObj_heap_other (by omega)).trans h2⟩
theorem take_next {LE : List En} {pre : List Sk.Pr} {x : Sk.Pr} (h : pre ++ [x] <+: LE.map pr) : ∃ e, x = pr e ∧ e ∈ LE ∧ LE.take (pre ++ [x]).length = LE.take pre.length ++ [e] ∧ LE.take pre.length ++ [e] <+: LE := by
  have hl := h.length_le
  rw [List.length_map] at hl
  have hlt : pre.length < LE.length := by simp at hl; omega
  have hx : x = pr LE[pre.length] := by
    obtain ⟨t, ht⟩ := h
    have h1 : (LE.map pr)[pre.length]? = some x := by rw [← ht]; simp
    rw [List.getElem?_map, List.getElem?_eq_getElem hlt] at h1
    exact (Option.some.inj h1).symm
  have ht : LE.take (pre.length + 1) = LE.take pre.length ++ [LE[pre.length]] := by rw [List.take_add_one, List.getElem?_eq_getElem hlt]; rfl
  exact ⟨LE[pre.length], hx, List.getElem_mem hlt, by rw [List.length_append]; exact ht, by rw [← ht]; exact List.take_prefix _ _⟩
theorem two_ends {e : Ending} {A B : Prop} (h : (e = .returned (.bool true) ∧ A) ∨ (e = .returned (.bool false) ∧ B)) : ∃ bb, e = .returned (.bool bb) ∧ ((bb = true ∧ A) ∨ (bb = false ∧ B)) := by
  rcases h with ⟨h, a⟩ | ⟨h, b⟩
  · exact ⟨true, h, .inl ⟨rfl, a⟩⟩
  · exact ⟨false, h, .inr ⟨rfl, b⟩⟩
set_option maxRecDepth 100000 in
set_option maxHeartbeats 2000000 in
theorem entries_seq (n : Nat) (hn : 3 ≤ n) {w : World} {bp gf : Nat} {lb0 : Array Value} {Tn Kp0 : World → World → Prop} {LE : List En} {m : Int} {fp S : List Nat}
    (hbp : w.heap[bp]? = some (.cells #[.func (.func gf) #[] lb0] 59 (0, 0)))
    (eg : ∀ args w, (callFunc gf args).run Tryd.prog w = .ok (.enter gf args) w)
    (hin : SeqT Fence.wide (n - 1) Tryd.prog gf lb0 encP Tn Kp0 (LE.map pr) w)
    (hfp : ∀ k ∈ fp, k < w.heap.size) (hT : ∀ A B, Tn A B → Only fp A B) (hKt : ∀ {A B C : World}, Kp0 A B → Kp0 B C → Kp0 A C)
    (hKb : ∀ (W : World) (l : Nat) (o o' : Obj), w.heap.size ≤ l → W.heap[l]? = some o → o.isCells = false → o.isWalk = false → Kp0 W (W.putObj l o'))
    (hK0 : ∀ A B, KeepsC S w.heap.size A B → Kp0 A B) (hS : ∀ k ∈ S, k < w.heap.size) (h0f : 0 ∉ fp) (h0S : 0 ∉ S) (hm : w.cell? ⟨0, 0, none⟩ = some (.int .i64 m)) (hg : ∀ x ∈ LE, x.good) :
    SeqT Fence.wide n Tryd.prog 46 #[.pointer (some ⟨bp, 0, none⟩)] encE Tn (KeepsC S w.heap.size) LE w := fun lp J Jx W hW hJ hJx hJT hY h0 => by
  have hsW := hW.size
  have hbpl : bp < w.heap.size := (Array.getElem?_eq_some_iff.1 hbp).1
  have h0l : (0 : Nat) < w.heap.size := cell_lt hm
  have hb1 : Below W.heap.size W (W.alloc (.cells #[.func (.yield lp) #[] #[]] 85)) := (Below.refl _ W).alloc (Nat.le_refl _) _
  have hbw : Below w.heap.size w (W.alloc (.cells #[.func (.yield lp) #[] #[]] 85)) := hW.trans (hb1.mono hsW)
  have hcb : (W.alloc (.cells #[.func (.yield lp) #[] #[]] 85)).cell? ⟨bp, 0, none⟩ = some (.func (.func gf) #[] lb0) := cell_in ((hbw.block bp hbpl).trans hbp) 0 _ rfl
  have hy0 : (W.alloc (.cells #[.func (.yield lp) #[] #[]] 85)).heap[W.heap.size]? = some (.cells #[.func (.yield lp) #[] #[]] 85 (0, 0)) := heap_alloc_new W _
  have hsz : (W.alloc (.cells #[.func (.yield lp) #[] #[]] 85)).heap.size = W.heap.size + 1 := by simp
  have hm0 : (W.alloc (.cells #[.func (.yield lp) #[] #[]] 85)).cell? ⟨0, 0, none⟩ = some (.int .i64 m) := (hbw.cell (p := ⟨0, 0, none⟩) h0l).trans hm
  have hJ0 : J [] (W.alloc (.cells #[.func (.yield lp) #[] #[]] 85)) := hJ.alloc _ h0
  refine callsIn_of_wp_marks Tryd.func46 rfl trivial ?_ rfl
  simp only [Tryd.ntmps46, List.size_toArray, List.length_cons, List.length_nil, Nat.reduceAdd, Nat.reduceSub, Array.replicate_succ, Array.replicate_zero, List.push_toArray, List.append_toArray, List.nil_append, List.cons_append]
  gi_wp2
  generalize W.alloc (.cells #[.func (.yield lp) #[] #[]] 85) = W0 at *
  have hglo : ∀ X Y : World, (∀ k, k = 0 → Y.heap[k]? = X.heap[k]?) → X.cell? ⟨0, 0, none⟩ = some (.int .i64 m) → Y.cell? ⟨0, 0, none⟩ = some (.int .i64 m) := fun X Y h h1 => by
    have := h 0 rfl
    rw [← h1]; unfold World.cell?
    simp only [this]
  refine range_t rfl (by omega) (gf := gf) (lb := lb0) rfl trivial eg (w0 := w) hin (fp := fp) (fun k hk => by have := hfp k hk; omega) hT hKt
    (fun X lq o o' hl ho hc hw => hKb X lq o o' (by omega) ho hc hw) hbw (fun _ => rfl)
    (fun pre X => pre <+: LE.map pr ∧ J (LE.take pre.length) X ∧ X.heap[W.heap.size]? = some (.cells #[.func (.yield lp) #[] #[]] 85 (0, 0)) ∧ X.cell? ⟨0, 0, none⟩ = some (.int .i64 m))
    (fun cd pre X => cd = .ret ∧ ∃ q, q <+: LE ∧ Jx q X)
    ?hI ?hIx ?hIT ⟨List.nil_prefix, by simpa using hJ0, hy0, hm0⟩
    (fun x => { tmps := #[.func (.yield lp) #[] #[], .pointer (some ⟨bp, 0, none⟩), .pointer (some ⟨W.heap.size, 0, none⟩), .string x.1, .string x.2, .func (.func gf) #[] lb0, .string x.1, .string x.2, undef, undef, undef, undef, undef, undef], defers := [] }) ?assign ?body ?done ?stop
  case hI =>
    intro s A B row ⟨h1, h2, h3, h4⟩ hgr hr
    have hk : ∀ k, k < W0.heap.size → k < A.heap.size → B.heap[k]? = A.heap[k]? := fun k hk hA => hgr.block k hA (fun e => by have := (hr k e.symm).1; omega)
    exact ⟨h1, hJ (LE.take s.length) A B row h2 hgr (fun r e => by obtain ⟨hB, h2⟩ := hr r e; exact ⟨by omega, h2⟩), (hk _ (by omega) (Array.getElem?_eq_some_iff.1 h3).1).trans h3, hglo A B (fun k e => by subst e; exact hk 0 (by omega) (cell_lt h4)) h4⟩
  case hIx =>
    intro cd s A B row ⟨h1, q, h2, h3⟩ hgr hr
    exact ⟨h1, q, h2, hJx q A B row h3 hgr (fun r e => by obtain ⟨hB, h2⟩ := hr r e; exact ⟨by omega, h2⟩)⟩
  case hIT =>
    rintro pre A B ⟨h1, h2, h3, h4⟩ ht
    have ho := hT A B ht
    exact ⟨h1, hJT _ _ _ h2 ht, (ho.block _ (Array.getElem?_eq_some_iff.1 h3).1 (fun hm => by have := hfp _ hm; omega)).trans h3, hglo A B (fun k e => by subst e; exact ho.block 0 (cell_lt h4) h0f) h4⟩
  case assign =>
    intro l' x X K hK
    gi_wp2
    exact hK
  case body =>
    rintro l' pre x X ⟨h1, h2, h3, h4⟩ hlen
    obtain ⟨e, rfl, he, htk, hpe⟩ := take_next hlen
    have hyc := cell_in h3 0 (.func (.yield lp) #[] #[]) rfl
    have HE := Lib.hid (hg e he)
    have HH := Lib.hid (And.intro h2 (And.intro h3 h4))
    clear h2 h3
    have h4d : X.drew.cell? ⟨0, 0, none⟩ = some (.int .i64 m) := h4
    have hmx : Tryd.prog.follows .mixedOrders = true := by kernel_rfl
    have hn1 : 1 ≤ n - 1 - 1 := by omega
    simp only [pr]
    gi_wp2
    gi_region_with_o (first
      | (refine ⟨trivial, ?_⟩; gi_at_call 47; refine (CallsIn.inRound l' (callsIn_wide.2 (entry_any e HE.out e.val m h4d))).mono ?_; rintro r W3 ⟨rfl, hb3⟩; have hyc3 := (hb3.cell (p := ⟨W.heap.size, 0, none⟩) (cell_lt hyc)).trans hyc; have J3 := hJ _ _ _ none HH.out.1 (Sk.grown_below ((below_drew X).trans hb3) none) (fun r e => by cases e); obtain ⟨fn, tmps, assign, body, hy, hR⟩ := hY _ e W3 J3 hpe; dsimp only [encE] at hy)
      | (refine (round_any (m' := n - 1 - 1 - 1) (show (Fence.wide.inRound l').depth = none from rfl) hR).mono ?_; rintro r W4 h; obtain ⟨bb, rfl, H4⟩ := two_ends h; replace H4 := Lib.hid H4; clear h))
    all_goals
      have hbX : Below X.heap.size X W3 := (below_drew X).trans hb3
      have hXs : W.heap.size < X.heap.size := (Array.getElem?_eq_some_iff.1 HH.out.2.1).1
      have hkX : KeepsFrom (W.heap.size + 1) X W3 := KeepsFrom.of_grownBy (Sk.grown_below hbX none) (fun j e => by cases e)
      have hy3 := (hbX.block _ hXs).trans HH.out.2.1
      have hm3 := (hbX.cell (p := ⟨0, 0, none⟩) (cell_lt h4)).trans h4
      rcases H4.out with ⟨rfl, hJ4, hk4, hkf4⟩ | ⟨rfl, hx4, hkf4⟩
      · gi_wp2
        refine ⟨hkX.trans (KeepsFrom.up hkf4 (by omega)), hK0 _ _ ((KeepsC.of_below hbX (by omega)).t hk4), hlen, (by rw [← htk] at hJ4; exact hJ4), hk4.2 _ _ _ hsW hy3, hglo _ _ (fun k e => by subst e; exact hk4.1 0 h0l h0S) hm3⟩
      · gi_wp2
        exact ⟨hkX.trans (KeepsFrom.up hkf4 (by omega)), rfl, _, hpe, hx4⟩
  case done =>
    rintro D X hD ⟨h1, h2, h3, h4⟩ hK
    gi_wp2
    refine ⟨by simp, .inl ⟨_, _, rfl, run_takeDeferred hK, ?_⟩⟩
    rw [List.length_map, List.take_of_length_le (Nat.le_refl _)] at h2
    exact ⟨_, results_none rfl _ _ _, ⟨_, rfl⟩, .inl (hJ.putObj _ h2 (by omega) hK rfl)⟩
  case stop =>
    rintro D c pre X hD hpre ⟨rfl, q, hq, hx⟩ hK
    gi_wp2
    refine ⟨by simp, .inl ⟨_, _, rfl, run_takeDeferred hK, ?_⟩⟩
    exact ⟨_, results_none rfl _ _ _, ⟨_, rfl⟩, .inr ⟨q, hq, hJx.putObj _ hx (by omega) hK rfl⟩⟩
end Go.Proofs.YtadejeoiffaimaaDoor.Me
