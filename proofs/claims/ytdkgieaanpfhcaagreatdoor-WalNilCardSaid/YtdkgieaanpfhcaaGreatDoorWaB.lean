/-
  A log's iterator, walked: what its bytes tell, batch by batch. Conditions: as each theorem states.
-/
import Derived.Test.YtdkgieaanpfhcaaGreatDoorWaA
import Derived.Test.YtdkgieaanpfhcaaGreatDoorWaR
namespace Go.Proofs.YtdkgieaanpfhcaaGreatDoor.Wa
open Go.RowKit Go.Shelf
open Go.Proofs.YtdkgieaanpfhcaaGreatDoor
open Vi Ba
open Go.Proofs.YtdkgieaanpfhcaaGreatDoor.Rf

attribute [local go_sem] Oper.semAt_some
theorem rec_len (L : List UInt8) (n : Nat) : ∀ (b : Bool) (p : Nat) (acc s : List UInt8) (q : Nat), L.length + 1 - p ≤ n → recGo L b p acc = some (s, q) → s.length + p ≤ acc.length + q := by
  induction n with
  | zero =>
    intro b p acc s q hn h
    have hp : ¬ p ≤ L.length := by omega
    rw [recGo, dif_neg hp] at h; cases h
  | succ n ih =>
    intro b p acc s q hn h
    by_cases hp : p ≤ L.length
    · match hpr : pread L p with
      | none => rw [rec_none hpr] at h; cases h
      | some (k, T, q') =>
        have hbd := pread_bd hp hpr
        rw [rec_some hp hpr] at h
        split at h
        · split at h
          · injection h with h; injection h with h1 h; subst h1; subst h; rw [List.length_append]; omega
          · have := ih true q' _ s q (by omega) h; rw [List.length_append] at this; omega
        · cases h
    · rw [recGo, dif_neg hp] at h; cases h
theorem recs_len (L : List UInt8) (n : Nat) : ∀ p, L.length + 1 - p ≤ n → ∀ x ∈ recs L p, x.1.length ≤ L.length := by
  induction n with
  | zero =>
    intro p hn x hx
    match h : rread L p with
    | none => rw [recs_none h] at hx; cases hx
    | some (s, q) => have := rread_bd h; omega
  | succ n ih =>
    intro p hn x hx
    match h : rread L p with
    | none => rw [recs_none h] at hx; cases hx
    | some (s, q) =>
      have hb := rread_bd h
      rw [recs_some h] at hx
      rcases List.mem_cons.1 hx with rfl | hx
      · have := rec_len L _ _ _ _ _ _ (Nat.le_refl _) h
        simp at this
        show s.length ≤ _
        omega
      · exact ih q (by omega) x hx
theorem recs_few (L : List UInt8) (n : Nat) : ∀ p, L.length + 1 - p ≤ n → (recs L p).length ≤ L.length - p := by
  induction n with
  | zero =>
    intro p hn
    match h : rread L p with
    | none => rw [recs_none h]; simp
    | some (s, q) => have := rread_bd h; omega
  | succ n ih =>
    intro p hn
    match h : rread L p with
    | none => rw [recs_none h]; simp
    | some (s, q) =>
      have hb := rread_bd h
      rw [recs_some h, List.length_cons]
      have := ih q (by omega)
      omega
theorem two_ends {e : Ending} {A B : Prop} (h : (e = .returned (.bool true) ∧ A) ∨ (e = .returned (.bool false) ∧ B)) : ∃ bb, e = .returned (.bool bb) ∧ ((bb = true ∧ A) ∨ (bb = false ∧ B)) := by
  rcases h with ⟨h, a⟩ | ⟨h, b⟩
  · exact ⟨true, h, .inl ⟨rfl, a⟩⟩
  · exact ⟨false, h, .inr ⟨rfl, b⟩⟩
theorem next_any (q nx : Nat) (A : Option Addr) (c : Nat) (l : List Chg) (hq : q ≤ 72057594037927935) (hl : l.length ≤ 2000) (hx : q + l.length = nx) (w : World) :
    Calls Tryz.prog 32 #[.agg #[.int .u64 q, .slice A l.length c]] w fun e w' => e = .returned (.int .u64 nx) ∧ Below w.heap.size w w' := by
  subst hx
  have h1 : IntKind.u64.wrap ((q : Int) + (l.length : Int)) = ((q + l.length : Nat) : Int) := by rw [IntKind.wrap_u64]; omega
  have h2 : IntKind.u64.wrap (l.length : Int) = (l.length : Int) := by rw [IntKind.wrap_u64]; omega
  go_enter Tryz.func32, Tryz.ntmps32
  go_wp2
  go_ret
  exact ⟨rfl, (Below.refl _ _).alloc (Nat.le_refl _) _⟩
abbrev KS : List TypeId := [69, 29, 9]
/-- the iterator under way: what was told, the number behind it; its boxes -/
def ReI (L : List UInt8) (J : List Bat → World → Prop) (yb nb lp : Nat) (pre : List RecX) (X : World) : Prop :=
  ∃ (done : List Bat) (nn : Nat) (rest : List RecX), recs L 0 = pre ++ rest ∧ tell 0 (recs L 0) = done ++ tell nn rest ∧ nn ≤ 72057594037929935 ∧ J done X ∧
    X.heap[yb]? = some (.cells #[.func (.yield lp) #[] #[]] 69 (0, 0)) ∧ X.heap[nb]? = some (.cells #[.int .u64 nn] 29 (0, 0))
theorem rest_cons {L : List UInt8} {pre rest : List RecX} {x : RecX} (h : recs L 0 = pre ++ rest) (hp : pre ++ [x] <+: recs L 0) : ∃ r, rest = x :: r := by
  obtain ⟨t, ht⟩ := hp
  rw [h, List.append_assoc] at ht
  exact ⟨t, (List.append_cancel_left ht).symm⟩
set_option maxRecDepth 100000 in
set_option maxHeartbeats 4000000 in
theorem read_seqm (n : Nat) (hn : 4 ≤ n) {w : World} {bp : Nat} {L : List UInt8} (hL : L.length ≤ 1000000) (hbp : w.heap[bp]? = some (.cells #[.string (bs L)] 9 (0, 0))) :
    SeqM Fence.wide n Tryz.prog 29 #[.pointer (some ⟨bp, 0, none⟩)] EncB (TnU w.heap.size) (KT KS) (tell 0 (recs L 0)) w := fun lp J Jx W hW hJ hJx hJT hY h0 => by
  have hsW := hW.size
  have hbpl : bp < w.heap.size := hp_lt hbp
  have hbW : W.heap[bp]? = some (.cells #[.string (bs L)] 9 (0, 0)) := (hW.block bp hbpl).trans hbp
  have hbWl := hp_lt hbW
  have hcb : ((W.alloc (.cells #[.func (.yield lp) #[] #[]] 69)).alloc (.cells #[.int .u64 0] 29)).cell? ⟨bp, 0, none⟩ = some (.string (bs L)) :=
    cell_in (((Below.heap_alloc _ _ _ (by simp; omega)).trans (Below.heap_alloc _ _ _ hbWl)).trans hbW) 0 _ rfl
  refine callsIn_of_wp_marks Tryz.func29 rfl trivial ?_ rfl
  simp only [Tryz.ntmps29, List.size_toArray, List.length_cons, List.length_nil, Nat.reduceAdd, Nat.reduceSub, Array.replicate_succ, Array.replicate_zero, List.push_toArray, List.append_toArray, List.nil_append, List.cons_append]
  have h1 : 1 ≤ n := by omega
  gi_wp2_with (first
    | (refine ⟨trivial, ?_⟩; gi_at_call 30; refine (callsIn_wide.2 (records_any L _)).mono ?_; rintro e w2 ⟨rfl, hw2⟩; have HW2 := Lib.hid hw2; clear hw2))
  have hz2 : w2.heap.size = W.heap.size + 3 := by rw [HW2.out]; simp
  have hy2 : w2.heap[W.heap.size]? = some (.cells #[.func (.yield lp) #[] #[]] 69 (0, 0)) := by
    rw [HW2.out]
    exact (Below.heap_alloc _ _ _ (by simp; omega)).trans ((Below.heap_alloc _ _ _ (by simp)).trans (heap_alloc_new W _))
  have hn2 : w2.heap[W.heap.size + 1]? = some (.cells #[.int .u64 0] 29 (0, 0)) := by
    rw [HW2.out]
    have h := heap_alloc_new (W.alloc (.cells #[.func (.yield lp) #[] #[]] 69)) (.cells #[.int .u64 0] 29)
    simp only [World.size_alloc] at h
    exact (Below.heap_alloc _ _ _ (by simp)).trans h
  have hs2 : w2.heap[W.heap.size + 1 + 1]? = some (.cells #[.string (bs L)] 9 (0, 0)) := by
    rw [HW2.out]
    have h := heap_alloc_new ((W.alloc (.cells #[.func (.yield lp) #[] #[]] 69)).alloc (.cells #[.int .u64 0] 29)) (.cells #[.string (bs L)] 9)
    simp only [World.size_alloc] at h
    exact h
  have hJ2 : J [] w2 := by rw [HW2.out]; exact hJ.alloc _ (hJ.alloc _ (hJ.alloc _ h0))
  have hb2 : Below W.heap.size W w2 := by
    rw [HW2.out]
    exact (((Below.refl _ W).alloc (Nat.le_refl _) _).alloc (by simp) _).alloc (by simp; omega) _
  have HJ := Lib.hid hJ2
  clear hJ2 hcb HW2 h0
  refine range_t rfl h1 (gf := 56) (lb := #[.pointer (some ⟨W.heap.size + 1 + 1, 0, none⟩)]) rfl trivial (enters_of Tryz.func56 (by kernel_rfl) rfl)
    (w0 := w2) (encs := encR) (L := recs L 0) (Tn := fun _ _ => False) (Kp := KeepS (W.heap.size + 1 + 1) L)
    (recs_seqt (n - 1) (by omega) (W.heap.size + 1 + 1) L hL w2 hs2)
    (fp := []) (by simp) (fun _ _ h => h.elim) KeepS.t (fun W l o o' _ h2 h3 _ => keepS_b W l o o' h2 h3) (Below.refl _ _) (fun _ => rfl)
    (ReI L J W.heap.size (W.heap.size + 1) lp) (fun cd _ X => cd = .ret ∧ (J (tell 0 (recs L 0)) X ∨ ∃ q, q <+: tell 0 (recs L 0) ∧ Jx q X))
    ?hI ?hIx (fun _ _ _ _ h => h.elim) ⟨[], 0, recs L 0, rfl, rfl, by omega, HJ.out, hy2, hn2⟩
    (fun x => { tmps := #[.func (.yield lp) #[] #[], .pointer (some ⟨bp, 0, none⟩), .pointer (some ⟨W.heap.size, 0, none⟩), .pointer (some ⟨W.heap.size + 1, 0, none⟩), .string (bs x.1), undef, undef, .string (bs L), .func (.func 56) #[] #[.pointer (some ⟨W.heap.size + 1 + 1, 0, none⟩)], .string (bs x.1), .int .i64 x.2, undef, undef, undef, undef, undef, undef, undef, undef, undef, undef, undef, undef, undef, undef, undef, undef, undef, undef, undef], defers := [] })
    ?assign ?body ?done ?stop
  case hI =>
    intro s A B row ⟨dn, nn, rest, e1, e2, e3, e4, e5, e6⟩ hgr hr
    have hr2 : ∀ r, row = some r → ∃ o : Obj, A.heap[r]? = some o ∧ o.isCells = false := fun r e => (hr r e).2
    have kt : KT KS A B := KT.grown hgr hr2
    exact ⟨dn, nn, rest, e1, e2, e3, hJ dn A B row e4 hgr (fun r e => by obtain ⟨h1, h2⟩ := hr r e; exact ⟨by omega, h2⟩), kt.box (by decide) e5, kt.box (by decide) e6⟩
  case hIx =>
    rintro cd s A B row ⟨e1, e2⟩ hgr hr
    have hr2 : ∀ r, row = some r → W.heap.size ≤ r ∧ ∃ o : Obj, A.heap[r]? = some o ∧ o.isCells = false := fun r e => by obtain ⟨h1, h2⟩ := hr r e; exact ⟨by omega, h2⟩
    refine ⟨e1, ?_⟩
    rcases e2 with e2 | ⟨q, e2, e3⟩
    · exact .inl (hJ _ A B row e2 hgr hr2)
    · exact .inr ⟨q, e2, hJx q A B row e3 hgr hr2⟩
  case assign =>
    intro l' x X K hK
    dsimp only [encR]
    gi_wp2
    exact hK
  case body =>
    rintro l' pre x X ⟨dn, nn, rest, e1, e2, e3, e4, e5, e6⟩ hlen
    obtain ⟨rs, rfl⟩ := rest_cons e1 hlen
    have hxl := recs_len L _ 0 (Nat.le_refl _) x (hlen.subset (by simp))
    have hn1 : 1 ≤ n - 1 - 1 := by omega
    have HPA : Hid (∀ W, Calls Tryz.prog 31 #[.string (bs x.1)] W (PaPost W (bs x.1))) := fun W => parse_any (bs x.1) (by rw [bs_size]; omega) W
    have htl : tell nn (x :: rs) = if (parse x.1).2.2 = 0 ∧ nn ≤ (parse x.1).2.1 then ⟨(parse x.1).2.1, (parse x.1).1⟩ :: tell ((parse x.1).2.1 + (parse x.1).1.length) rs else [] := rfl
    have hbd := parse_bd (L := x.1)
    unfold PaPost at HPA
    rw [bs_toList] at HPA
    generalize parse x.1 = p at *
    obtain ⟨l, q, ec⟩ := p
    simp only at htl hbd HPA
    have hXl := hp_lt e5
    have hXn := hp_lt e6
    have HE := Lib.hid (And.intro e1 (And.intro e2 (And.intro e4 (And.intro e5 e6))))
    obtain ⟨cn, fn⟩ := And.intro (cell_in e6 0 _ rfl) (free_in e6 0)
    clear e1 e2 e4
    have HLN := Lib.hid hlen
    clear hlen
    by_cases hec : ec = 0
    · subst hec
      obtain ⟨hl2, hq2⟩ := hbd rfl
      clear hbd
      by_cases hqn : nn ≤ q
      · obtain ⟨nx, hnx⟩ : ∃ nx, q + l.length = nx := ⟨_, rfl⟩
        rw [hnx] at htl
        have htl2 := Lib.hid (htl.trans (if_pos ⟨rfl, hqn⟩))
        have hnb : nx ≤ 72057594037929935 := by omega
        have HNX := Lib.hid (And.intro hnx hnb)
        clear htl hnx hnb
        gi_wp2_with (first
          | (refine ⟨trivial, ?_⟩; gi_at_call 31; refine (CallsIn.inRound l' (callsIn_wide.2 (HPA.out _))).mono ?_; rintro r w3 ⟨v3, rfl, hrow3, hb3⟩
             obtain ⟨A3, c3, hv3, _⟩ := crow_of_owns hrow3
             subst hv3
             have h13 : Below X.heap.size X (w3.alloc (.cells #[.int .u64 q, .slice A3 l.length c3] 32)) := hb3.alloc hb3.size _
             have HR3 := Lib.hid (And.intro hrow3 h13)
             have hz3 := hb3.size
             have cn3 := (h13.cell (p := ⟨W.heap.size + 1, 0, none⟩) hXn).trans cn
             clear hrow3 h13 hb3)
          | (refine ⟨trivial, ?_⟩; gi_at_call 32; refine (CallsIn.inRound l' (callsIn_wide.2 (next_any q nx A3 c3 l hq2 hl2 HNX.out.1 _))).mono ?_; rintro r w5 ⟨rfl, hb5⟩
             have h15 := HR3.out.2.trans (hb5.mono (by simp; omega))
             have ey5 := (h15.block _ hXl).trans HE.out.2.2.2.1
             have en5 := (h15.block _ hXn).trans HE.out.2.2.2.2
             have eb5 := (hb5.block w3.heap.size (by simp)).trans (heap_alloc_new w3 (.cells #[.int .u64 q, .slice A3 l.length c3] 32))
             have J5 : J dn w5 := hJ dn X w5 none HE.out.2.2.1 (grown_below h15 none) (fun r e => by cases e)
             have T6 : TnU w.heap.size w5 (w5.setCell ⟨W.heap.size + 1, 0, none⟩ (.int .u64 nx)) := ⟨_, _, _, _, by omega, en5, rfl⟩
             have K6 : KT [63, 32, 69] w5 (w5.setCell ⟨W.heap.size + 1, 0, none⟩ (.int .u64 nx)) := T6.kt (by decide)
             have J6 := hJT dn _ _ J5 T6
             have row5 : (w5.setCell ⟨W.heap.size + 1, 0, none⟩ (.int .u64 nx)).ownsRow 0 63 3 (.slice A3 l.length c3) l.length (cCells l) := K6.row (by decide) ((KT.below (ts := [63]) hb5).row (by decide) ((KT.below (ts := [63]) ((Below.refl _ w3).alloc (Nat.le_refl _) _)).row (by decide) (owns_base HR3.out.1 (Nat.zero_le _))))
             have pre6 : dn ++ [⟨q, l⟩] <+: tell 0 (recs L 0) := ⟨tell nx rs, by rw [HE.out.2.1, htl2.out]; simp⟩
             obtain ⟨fy, tmpsy, assigny, bodyy, hy, hR⟩ := hY dn ⟨q, l⟩ _ _ J6 pre6 ⟨A3, c3, rfl, row5⟩
             dsimp only at hy
             have eb6 := K6.box (by decide) eb5
             have cy6 := cell_in (K6.box (by decide) ey5) 0 _ rfl
             have cb0 := cell_in eb6 0 _ rfl
             have cb1 := cell_in eb6 1 _ rfl
             have cn5 := cell_in en5 0 _ rfl
             have fn5 := free_in en5
             have en6 := heap_set en5 0 (.int .u64 nx)
             have ES := Lib.hid (And.intro h15 (And.intro T6 (And.intro en6 (K6.box (by decide) ey5))))
             clear h15 ey5 en5 eb5 J5 T6 K6 J6 row5 pre6 eb6 en6)
          | (refine (round_any (m' := n - 1 - 1 - 1) (show (Fence.wide.inRound l').depth = none from rfl) hR).mono ?_; rintro r W7 h; obtain ⟨bb, rfl, H7⟩ := two_ends h; replace H7 := Lib.hid H7; clear h))
        · rename_i hbb
          rcases H7.out with ⟨hb7, _⟩ | ⟨_, hj7, hf7⟩
          · rw [hb7] at hbb; cases hbb
          · exact ⟨((kf_below ES.out.1).trans (kf_tnU ES.out.2.1)).trans (KeepsFrom.up hf7 hb2.size), rfl, .inr ⟨_, ⟨tell nx rs, by rw [HE.out.2.1, htl2.out]; simp⟩, hj7⟩⟩
        · rename_i hbb
          rcases H7.out with ⟨_, hj7, hk7, hf7⟩ | ⟨hb7, _⟩
          · refine ⟨((kf_below ES.out.1).trans (kf_tnU ES.out.2.1)).trans (KeepsFrom.up hf7 hb2.size), fun hx => ?_, dn ++ [⟨q, l⟩], nx, rs, by rw [HE.out.1]; simp, by rw [HE.out.2.1, htl2.out]; simp, HNX.out.2, hj7, hk7.box (by decide) ES.out.2.2.2, hk7.box (by decide) ES.out.2.2.1⟩
            exact hk7.box (by decide) ((ES.out.2.1.kt (ts := [9]) (by decide)).box (by decide) ((KT.below (ts := [9]) ES.out.1).box (by decide) hx))
          · rw [hb7] at hbb; cases hbb
      · have htl2 := Lib.hid (htl.trans (if_neg (fun h => hqn h.2)))
        clear htl
        gi_wp2_with (first
          | (refine ⟨trivial, ?_⟩; gi_at_call 31; refine (CallsIn.inRound l' (callsIn_wide.2 (HPA.out _))).mono ?_; rintro r w3 ⟨v3, rfl, hrow3, hb3⟩
             obtain ⟨A3, c3, hv3, _⟩ := crow_of_owns hrow3
             subst hv3
             have h13 : Below X.heap.size X (w3.alloc (.cells #[.int .u64 q, .slice A3 l.length c3] 32)) := hb3.alloc hb3.size _
             have HR3 := Lib.hid h13
             have hz3 := hb3.size
             have cn3 := (h13.cell (p := ⟨W.heap.size + 1, 0, none⟩) hXn).trans cn
             clear hrow3 h13 hb3))
        refine ⟨kf_below HR3.out, rfl, .inl ?_⟩
        have h9 := hJ dn X _ none HE.out.2.2.1 (grown_below HR3.out none) (fun r e => by cases e)
        rw [HE.out.2.1, htl2.out, List.append_nil]
        exact h9
    · have htl2 := Lib.hid (htl.trans (if_neg (fun h => hec h.1)))
      have z1 : (ec == 0) = false := by simpa using hec
      have z2 : (ec != 0) = true := by simp [bne, z1]
      clear htl hec hbd
      gi_wp2_with (first
        | (refine ⟨trivial, ?_⟩; gi_at_call 31; refine (CallsIn.inRound l' (callsIn_wide.2 (HPA.out _))).mono ?_; rintro r w3 ⟨v3, rfl, hrow3, hb3⟩
           obtain ⟨A3, c3, hv3, _⟩ := crow_of_owns hrow3
           subst hv3
           have h13 : Below X.heap.size X (w3.alloc (.cells #[.int .u64 q, .slice A3 l.length c3] 32)) := hb3.alloc hb3.size _
           have HR3 := Lib.hid h13
           have hz3 := hb3.size
           have cn3 := (h13.cell (p := ⟨W.heap.size + 1, 0, none⟩) hXn).trans cn
           clear hrow3 h13 hb3))
      refine ⟨kf_below HR3.out, rfl, .inl ?_⟩
      have h9 := hJ dn X _ none HE.out.2.2.1 (grown_below HR3.out none) (fun r e => by cases e)
      rw [HE.out.2.1, htl2.out, List.append_nil]
      exact h9
  case done =>
    rintro D X hD ⟨dn, nn, rest, e1, e2, e3, e4, e5, e6⟩ hK
    have er : rest = [] := by
      have := congrArg List.length e1
      rw [List.length_append] at this
      exact List.length_eq_zero_iff.1 (by omega)
    subst er
    rw [tell_nil, List.append_nil] at e2
    gi_wp2
    refine ⟨by simp, .inl ⟨_, _, rfl, run_takeDeferred hK, ?_⟩⟩
    exact ⟨_, results_none rfl _ _ _, ⟨_, rfl⟩, .inl (by rw [e2]; exact hJ.putObj _ e4 (by omega) hK rfl)⟩
  case stop =>
    rintro D c pre X hD hpre ⟨rfl, hx⟩ hK
    gi_wp2
    refine ⟨by simp, .inl ⟨_, _, rfl, run_takeDeferred hK, ?_⟩⟩
    refine ⟨_, results_none rfl _ _ _, ⟨_, rfl⟩, ?_⟩
    rcases hx with hx | ⟨q, hq, hx⟩
    · exact .inl (hJ.putObj _ hx (by omega) hK rfl)
    · exact .inr ⟨q, hq, hJx.putObj _ hx (by omega) hK rfl⟩
end Go.Proofs.YtdkgieaanpfhcaaGreatDoor.Wa
