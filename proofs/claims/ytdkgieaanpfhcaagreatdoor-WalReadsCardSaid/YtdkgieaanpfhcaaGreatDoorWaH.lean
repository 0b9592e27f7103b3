/-
  The law WalReads walked: it returns true. Conditions: as each theorem states.
-/
import Derived.Test.YtdkgieaanpfhcaaGreatDoorWaG
import Derived.Test.YtdkgieaanpfhcaaGreatDoorWaJ
namespace Go.Proofs.YtdkgieaanpfhcaaGreatDoor.Wa
open Go.RowKit Go.Shelf
open Go.Proofs.YtdkgieaanpfhcaaGreatDoor
open Vi Ba
open Go.Proofs.YtdkgieaanpfhcaaGreatDoor.Rf

attribute [local go_sem] Oper.semAt_some
abbrev K5 : List TypeId := [25, 32, 63, 68, 5]
/-- the law's loop: what it has, what it wants, the number -/
structure WI (w : World) (gb most : Nat) (wv : Value) (ys : List BX) (pre : List Bat) (X : World) : Prop where
  co : CoI w.heap.size gb w pre X
  want : BIn w.heap.size 68 X wv ys
  mb : X.heap[w.heap.size]? = some (.cells #[.int .u8 most] 5 (0, 0))
section
variable {w : World} {gb most : Nat} {wv : Value} {ys : List BX} {pre : List Bat} {A B : World}
theorem WI.below (h : WI w gb most wv ys pre A) : Below w.heap.size w A := by obtain ⟨_, _, _, _, _, h4⟩ := h.co; exact h4
theorem WI.kt (h : WI w gb most wv ys pre A) (k : KT K5 A B) (hb : Below w.heap.size w B) : WI w gb most wv ys pre B :=
  ⟨h.co.kt (k.less (by decide)) hb, h.want.kept k (by decide) (by decide), k.box (by decide) h.mb⟩
theorem WI.size (h : WI w gb most wv ys pre A) : w.heap.size < A.heap.size := hp_lt h.mb
theorem WI.on (h : WI w gb most wv ys pre A) (hb : Below A.heap.size A B) : WI w gb most wv ys pre B := h.kt (KT.below hb) (h.below.trans (hb.mono (Nat.le_of_lt h.size)))
theorem WI.from {B0 : Nat} (hB : w.heap.size ≤ B0) : OwnFrom B0 (fun pre X => WI w gb most wv ys pre X) := fun s X Y row h hg hr =>
  h.kt (KT.grown hg (fun r e => (hr r e).2)) (below_grown_row h.below hg (fun r e => by have := (hr r e).1; omega) (Nat.le_of_lt h.size))
end
theorem own_cap {w : World} {base e size n c : Nat} {A : Option Addr} {xs : List Value} (h : w.ownsRow base e size (.slice A n c) n xs) : n ≤ c := by
  rcases h.2 with ⟨e, h0⟩ | ⟨g, cap, cur, e, _, _, h3, _⟩
  · omega
  · injection e with _ _ e
    omega
theorem BRd.take {W : World} {A : Option Addr} {ys : List BX} (h : BRd W A ys) (k : Nat) : BRd W A (ys.take k) := fun h0 => by
  have h1 : 0 < ys.length := by rw [List.length_take] at h0; omega
  obtain ⟨g, e, hg, hc⟩ := h h1
  exact ⟨g, e, hg, fun i hi => by rw [List.getElem_take]; exact hc i (by rw [List.length_take] at hi; omega)⟩
set_option maxRecDepth 100000 in
theorem reads_long {w : World} (s : ByteArray) (most : Nat) (hs : s.size ≤ 9223372036854775807) (h : 4000 < s.size) :
    Calls Tryz.prog 3 #[.string s, .int .u8 most] w fun e w' => e = .returned (.bool true) ∧ Below w.heap.size w w' := by
  go_enter Tryz.func3, Tryz.ntmps3
  go_wp2_with (first
    | (go_at_call 6; refine (awake16_any _).mono ?_; rintro e w1 ⟨rfl, hb1⟩))
  go_ret
  exact ⟨rfl, ((Below.refl _ _).alloc (Nat.le_refl _) _).trans (hb1.mono (by simp))⟩
set_option maxRecDepth 100000 in
set_option maxHeartbeats 4000000 in
theorem reads_main {w : World} (s : ByteArray) (most : Nat) (hm : most ≤ 255) (h : s.size ≤ 4000) :
    Calls Tryz.prog 3 #[.string s, .int .u8 most] w fun e w' => e = .returned (.bool true) ∧ Below w.heap.size w w' := by
  obtain ⟨L, rfl⟩ : ∃ L, s = bs L := ⟨s.data.toList, (bs_of s).symm⟩
  have hL : L.length ≤ 4000 := by rw [bs_size] at h; exact h
  have hcmp : ((bs L).size : Int) ≤ 4000 := by rw [bs_size]; omega
  obtain ⟨i0, hi, hz0, hz1, hz2⟩ := info_parts infoB
  have HI := Lib.hid (And.intro hi (And.intro hz0 (And.intro hz1 hz2)))
  clear hi hz0 hz1 hz2
  have HRR := Lib.hid fun (X : World) => rread_any L (by omega) X
  have HSQ := Lib.hid fun (X : World) (bp : Nat) (hb : X.heap[bp]? = some (.cells #[.string (bs L)] 9 (0, 0))) => read_seqm (8 - 1) (by decide) (w := X) (L := L) (by omega) hb
  have hfew : (tell 0 (recs L 0)).length ≤ 4000 := by
    have h1 := tell_len (recs L 0) 0
    have h2 := recs_few L _ 0 (Nat.le_refl _)
    omega
  have HBD := Lib.hid (fun b (hb : b ∈ tell 0 (recs L 0)) => (tell_bd (n := 0) (rs := recs L 0) b hb).1)
  unfold RdPostB at HRR
  generalize hT : tell 0 (recs L 0) = T at *
  clear hT
  refine (callsIn_wide (n := 8)).1 ?_
  refine callsIn_of_wp_marks Tryz.func3 rfl trivial ?_ rfl
  have h1 : 1 ≤ 8 := by decide
  simp only [Tryz.ntmps3, List.size_toArray, List.length_cons, List.length_nil, Nat.reduceAdd, Nat.reduceSub, Array.replicate_succ, Array.replicate_zero, List.push_toArray, List.append_toArray, List.nil_append, List.cons_append]
  gi_wp2_with (first
    | (refine ⟨trivial, ?_⟩; gi_at_call 6; refine (callsIn_wide.2 (awake16_any _)).mono ?_; rintro e w1 ⟨rfl, hb1⟩; have B1 := Lib.hid hb1; clear hb1)
    | (refine ⟨trivial, ?_⟩; gi_at_call 7; refine (callsIn_wide.2 (HRR.out _)).mono ?_; rintro e w2 ⟨wv, ys, rfl, hy, hin, hb2⟩; have B2 := Lib.hid (And.intro hy (And.intro hin hb2)); clear hy hin hb2)
    | (refine ⟨trivial, ?_⟩; gi_at_call 8; refine (callsIn_wide.2 (read_any L _)).mono ?_; rintro e w3 ⟨rfl, hw3⟩; have HW3 := Lib.hid hw3; clear hw3))
  obtain ⟨WA, wc, rfl⟩ := B2.out.2.1.slice
  have hz1 := B1.out.size
  rw [World.size_alloc] at hz1
  have hz2 := B2.out.2.2.size
  have hmb1 := (B1.out.block w.heap.size (by simp)).trans (heap_alloc_new w (.cells #[.int .u8 most] 5))
  have hbw1 : Below w.heap.size w w1 := ((Below.refl _ w).alloc (Nat.le_refl _) _).trans (B1.out.mono (by simp))
  have hb23 : Below w2.heap.size w2 w3 := by rw [HW3.out]; exact ((Below.refl _ _).alloc (Nat.le_refl _) _).alloc (by simp) _
  have hz3 : w3.heap.size = w2.heap.size + 2 := by rw [HW3.out]; simp
  have hgb3 : w3.heap[w2.heap.size]? = some (.cells #[.slice none 0 0] 25 (0, 0)) := by
    rw [HW3.out]; exact (Below.heap_alloc _ _ _ (by simp)).trans (heap_alloc_new w2 _)
  have hsb3 : w3.heap[w2.heap.size + 1]? = some (.cells #[.string (bs L)] 9 (0, 0)) := by
    rw [HW3.out]
    have h := heap_alloc_new (w2.alloc (.cells #[.slice none 0 0] 25)) (.cells #[.string (bs L)] 9)
    simp only [World.size_alloc] at h
    exact h
  have hI0 : WI w w2.heap.size most (.slice WA ys.length wc) ys [] w3 := by
    have hbw3 : Below w.heap.size w w3 := (hbw1.trans (B2.out.2.2.mono (by omega))).trans (hb23.mono (by omega))
    refine ⟨⟨_, [], rfl, hgb3, BIn.nil _ _ _, hbw3⟩, ⟨owns_base (B2.out.2.1.kept (ts := [68, 63]) (KT.below hb23) (by decide) (by decide)).own (by omega), (B2.out.2.1.kept (ts := [68, 63]) (KT.below hb23) (by decide) (by decide)).lies⟩, ?_⟩
    exact (hb23.block _ (by omega)).trans ((B2.out.2.2.block _ (by omega)).trans hmb1)
  have HI0 := Lib.hid hI0
  have HYT := Lib.hid B2.out.1
  have HZ := Lib.hid (And.intro hz1 (And.intro hz2 hz3))
  have hys : ys.length ≤ 4000 := by have := congrArg List.length B2.out.1; rw [List.length_map] at this; omega
  clear hI0 hgb3 hb23 hbw1 hmb1 HW3 B1 B2
  have hsq := HSQ.out w3 (w2.heap.size + 1) hsb3
  refine range_mu rfl h1 (gf := 29) (lb := #[.pointer (some ⟨w2.heap.size + 1, 0, none⟩)]) rfl trivial (enters_of Tryz.func29 (by kernel_rfl) rfl)
    (w0 := w3) (Enc := EncB) (L := T) (Tn := TnU w3.heap.size) (Kp := KT KS) hsq (fun _ _ h => h.walk) KT.t (fun W l o o' _ h2 h3 _ => KT.put h2 h3) (Below.refl _ _) (fun x args W h => encB_size x args W h)
    (fun pre X => WI w w2.heap.size most (.slice WA ys.length wc) ys pre X ∧ (most = 0 ∨ pre.length < most)) (fun cd pre X => cd = .exit 0 ∧ WI w w2.heap.size most (.slice WA ys.length wc) ys pre X ∧ pre.length = most ∧ 0 < most)
    (fun s X Y row h hg hr => ⟨WI.from (B0 := w3.heap.size) (by have := HZ.out; omega) s X Y row h.1 hg hr, h.2⟩) (fun cd s X Y row h hg hr => ⟨h.1, WI.from (B0 := w3.heap.size) (by have := HZ.out; omega) s X Y row h.2.1 hg hr, h.2.2⟩)
    (fun pre A B h ht => ⟨h.1.kt (ht.kt (by decide)) (ht.below h.1.below (by have := HZ.out; omega)), h.2⟩) ⟨HI0.out, by rcases Nat.eq_zero_or_pos most with h | h; exact .inl h; exact .inr h⟩
    (fun x a' W => ∃ kb A c, a' = { tmps := #[.string (bs L), .int .u8 most, undef, .pointer (some ⟨w.heap.size, 0, none⟩), .bool false, .slice WA ys.length wc, .pointer (some ⟨w2.heap.size, 0, none⟩), .pointer (some ⟨kb, 0, none⟩), .bool true, .bool false, .string (bs L), .int .i64 ((bs L).size : Nat), .bool (decide ((4000 : Int) < ((bs L).size : Nat))), .string (bs L), .slice WA ys.length wc, .string (bs L), .func (.func 29) #[] #[.pointer (some ⟨w2.heap.size + 1, 0, none⟩)], .agg #[.int .u64 x.seq, .slice A x.l.length c], undef, undef, undef, undef, undef, undef, undef, undef, undef, undef, undef, undef, undef, undef, undef, undef, undef, undef, undef, undef, undef, undef], defers := [] } ∧ BoxB kb x A c W)
    ?hAx ?assign ?body ?done ?stop
  case hAx =>
    rintro x a' s A B row ⟨kb, a, c, e, hb⟩ hg hr
    exact ⟨kb, a, c, e, hb.kt (KT.grown hg (fun r e => (hr r e).2))⟩
  case assign =>
    rintro l' pre x args W K hI hp ⟨A, c, rfl, hl⟩ hK
    gi_wp2
    have hbl : Below W.heap.size W (W.alloc (.cells #[.int .u64 x.seq, .slice A x.l.length c] 32)) := (Below.refl _ W).alloc (Nat.le_refl _) _
    exact hK _ _ ⟨hI.1.on hbl, hI.2⟩ (kf_below hbl) (KT.below hbl) ⟨W.heap.size, A, c, rfl, box_new hl⟩
  case body =>
    rintro l' pre x a' W ⟨hI, hpm⟩ hp ⟨kb, A, c, rfl, hb⟩
    obtain ⟨v, xs, e1, e2, e3, e4⟩ := hI.co
    obtain ⟨A1, c1, rfl⟩ := e3.slice
    obtain ⟨cb0, cb1⟩ := hb.cells
    have cv := cell_in e2 0 _ rfl
    have hpl := hp.length_le
    rw [List.length_append] at hpl
    have hxp : xs.length = pre.length := by rw [← e1, List.length_map]
    have hxl : xs.length + 1 ≤ 4000 := by simp at hpl; omega
    have hbl : Below W.heap.size W (W.alloc (.cells #[.int .u64 x.seq, .slice A x.l.length c] 32)) := (Below.refl _ W).alloc (Nat.le_refl _) _
    have HE := Lib.hid (And.intro e1 (And.intro (KT.box (ts := [25]) (KT.below hbl) (by decide) e2) (And.intro (e3.kept (ts := [32, 63]) (KT.below hbl) (by decide) (by decide)) (And.intro (e4.trans (hbl.mono (Nat.le_of_lt hI.size))) (And.intro (hb.kt (KT.below hbl)) (hI.on hbl))))))
    have hzW := hp_lt e2
    have hgw : w.heap.size ≤ w2.heap.size := by have := HZ.out; omega
    have hgw2 : Hid (w2.heap.size ≠ w.heap.size) := by have := HZ.out; rw [Hid]; omega
    have hwm : IntKind.i64.wrap (most : Int) = (most : Int) := IntWalk.i64_in _ (by omega)
    have cmw := cell_in hI.mb 0 _ rfl
    have HPM := Lib.hid (And.intro hpm hxp)
    clear e1 e2 e3 e4 hb hp hI hpl hpm hxp
    by_cases hq : xs.length + 1 = most
    · have hq1 : (((xs.length : Nat) : Int) + 1 == (most : Int)) = true := by simp; omega
      replace hq := Lib.hid hq
      gi_wp2_with (first
        | (gi_at_builtin
           refine wpListIn_append_own _ rfl (.tmp 18) (.tmp 20) 25 rfl w.heap.size 32 i0 _ 2 32 Tryz.underlying25 HI.out.1 HI.out.2.1 HI.out.2.2.1 HI.out.2.2.2 rfl (by decide) (.slice A1 xs.length c1) xs.length (bCells xs) rfl HE.out.2.2.1.own ⟨W.heap.size, 0, none⟩ 1 1 (BX.cells (x, A, c)) rfl rfl (grown_two W _ _ _) (by simp [BX.cells, Value.oneCell']) (by unfold maxLen; omega) (by omega) (by simp; omega) ?_
           intro v7 w7 hown hgr _
           have h8 := (KT.own (ts := [25]) HE.out.2.2.1.own hgr (by decide)).box (by decide) HE.out.2.1
           have c8 := cell_in h8 0 _ rfl
           have f8 := free_in h8 0
           obtain ⟨A7, c7, rfl⟩ := own_slice hown
           have k7 : KT [68, 63, 5] (W.alloc (.cells #[.int .u64 x.seq, .slice A x.l.length c] 32)) (w7.setCell ⟨w2.heap.size, 0, none⟩ (.slice A7 (xs.length + 1) c7)) := (KT.own HE.out.2.2.1.own hgr (by decide)).t (KT.set (i := 0) h8 (by decide) (.slice A7 (xs.length + 1) c7))
           have C7 : Hid (WI w w2.heap.size most (.slice WA ys.length wc) ys (pre ++ [x]) (w7.setCell ⟨w2.heap.size, 0, none⟩ (.slice A7 (xs.length + 1) c7))) := ⟨CoI.put HE.out.1 HE.out.2.1 HE.out.2.2.1 HE.out.2.2.2.1 HE.out.2.2.2.2.1.2 hgr hown hgw, HE.out.2.2.2.2.2.want.kept k7 (by decide) (by decide), k7.box (by decide) HE.out.2.2.2.2.2.mb⟩
           have c9 := cell_in ((KT.own (ts := [5]) HE.out.2.2.1.own hgr (by decide)).box (by decide) HE.out.2.2.2.2.2.mb) 0 _ rfl
           have c10 := cell_in (heap_set h8 0 (.slice A7 (xs.length + 1) c7)) 0 _ rfl
           have K7 := Lib.hid (And.intro (((kf_below (B := w3.heap.size) hbl).trans (kf_own HE.out.2.2.1.own hgr)).trans (kf_set (i := 0) h8 (.slice A7 (xs.length + 1) c7))) (((KT.below (ts := KS) hbl).t (KT.own HE.out.2.2.1.own hgr (by decide))).t (KT.set (i := 0) h8 (by decide) (.slice A7 (xs.length + 1) c7))))
           clear hown hgr h8 k7))
      exact ⟨K7.out.1, rfl, C7.out, by have := HPM.out.2; have := hq.out; rw [List.length_append]; simp; omega, by have := hq.out; omega⟩
    · have hq1 : (((xs.length : Nat) : Int) + 1 == (most : Int)) = false := by simp; omega
      replace hq := Lib.hid hq
      gi_wp2_with (first
        | (gi_at_builtin
           refine wpListIn_append_own _ rfl (.tmp 18) (.tmp 20) 25 rfl w.heap.size 32 i0 _ 2 32 Tryz.underlying25 HI.out.1 HI.out.2.1 HI.out.2.2.1 HI.out.2.2.2 rfl (by decide) (.slice A1 xs.length c1) xs.length (bCells xs) rfl HE.out.2.2.1.own ⟨W.heap.size, 0, none⟩ 1 1 (BX.cells (x, A, c)) rfl rfl (grown_two W _ _ _) (by simp [BX.cells, Value.oneCell']) (by unfold maxLen; omega) (by omega) (by simp; omega) ?_
           intro v7 w7 hown hgr _
           have h8 := (KT.own (ts := [25]) HE.out.2.2.1.own hgr (by decide)).box (by decide) HE.out.2.1
           have c8 := cell_in h8 0 _ rfl
           have f8 := free_in h8 0
           obtain ⟨A7, c7, rfl⟩ := own_slice hown
           have k7 : KT [68, 63, 5] (W.alloc (.cells #[.int .u64 x.seq, .slice A x.l.length c] 32)) (w7.setCell ⟨w2.heap.size, 0, none⟩ (.slice A7 (xs.length + 1) c7)) := (KT.own HE.out.2.2.1.own hgr (by decide)).t (KT.set (i := 0) h8 (by decide) (.slice A7 (xs.length + 1) c7))
           have C7 : Hid (WI w w2.heap.size most (.slice WA ys.length wc) ys (pre ++ [x]) (w7.setCell ⟨w2.heap.size, 0, none⟩ (.slice A7 (xs.length + 1) c7))) := ⟨CoI.put HE.out.1 HE.out.2.1 HE.out.2.2.1 HE.out.2.2.2.1 HE.out.2.2.2.2.1.2 hgr hown hgw, HE.out.2.2.2.2.2.want.kept k7 (by decide) (by decide), k7.box (by decide) HE.out.2.2.2.2.2.mb⟩
           have c9 := cell_in ((KT.own (ts := [5]) HE.out.2.2.1.own hgr (by decide)).box (by decide) HE.out.2.2.2.2.2.mb) 0 _ rfl
           have c10 := cell_in (heap_set h8 0 (.slice A7 (xs.length + 1) c7)) 0 _ rfl
           have K7 := Lib.hid (And.intro (((kf_below (B := w3.heap.size) hbl).trans (kf_own HE.out.2.2.1.own hgr)).trans (kf_set (i := 0) h8 (.slice A7 (xs.length + 1) c7))) (((KT.below (ts := KS) hbl).t (KT.own HE.out.2.2.1.own hgr (by decide))).t (KT.set (i := 0) h8 (by decide) (.slice A7 (xs.length + 1) c7))))
           clear hown hgr h8 k7))
      refine ⟨K7.out.1, K7.out.2, C7.out, ?_⟩
      rcases HPM.out.1 with h | h
      · exact .inl h
      · right; have := HPM.out.2; have := hq.out; rw [List.length_append]; simp; omega
  case done =>
    rintro D W hD ⟨hI, hpm⟩ hK
    obtain ⟨v, xs, e1, e2, e3, e4⟩ := hI.co
    obtain ⟨A1, c1, rfl⟩ := e3.slice
    have cv := cell_in e2 0 _ rfl
    have cm := cell_in hI.mb 0 _ rfl
    have hwm : IntKind.i64.wrap (most : Int) = (most : Int) := IntWalk.i64_in _ (by omega)
    have hcap := own_cap hI.want.own
    have HW := Lib.hid (Nat.le_of_lt hI.size)
    have HN : Hid (xs.length ≤ 1000000) := by have := congrArg List.length e1; rw [List.length_map] at this; rw [Hid]; omega
    have HLL : Hid (∀ x ∈ xs, x.1.l.length ≤ 100000) := fun x hx => by have := HBD.out x.1 (by rw [← e1]; exact List.mem_map.2 ⟨x, hx, rfl⟩); omega
    have HEQ : Hid (xs.map Prod.fst = ys.map Prod.fst) := e1.trans HYT.out.symm
    have hTy : ys.length = T.length := by have := congrArg List.length HYT.out; rwa [List.length_map] at this
    have HX := Lib.hid (And.intro e4 (And.intro e3 (And.intro hI.want.read hK)))
    have hK2 := hK
    by_cases h0 : most = 0
    · subst h0
      clear e1 e2 e3 e4 hI hK hTy hpm
      gi_wp2_with (first
        | (refine ⟨trivial, ?_⟩; gi_at_call 10; refine (callsIn_wide.2 (to_any HN.out HX.out.2.1)).mono ?_; rintro e w7 ⟨v7, rfl, hi7, hb7⟩
           obtain ⟨A7, c7, rfl⟩ := hi7.slice
           have H7 := Lib.hid (And.intro hi7.read (And.intro (HX.out.2.2.1.on hb7) (And.intro ((hb7.block D (hp_lt HX.out.2.2.2)).trans HX.out.2.2.2) (HX.out.1.trans (hb7.mono HW.out)))))
           clear hi7 hb7)
        | (refine ⟨trivial, ?_⟩; gi_at_call 9; refine (callsIn_wide.2 (same16_yes (ys := ys) HN.out HLL.out HEQ.out H7.out.1 H7.out.2.1)).mono ?_; rintro e w8 ⟨rfl, hb8⟩))
      refine ⟨by simp, .inl ⟨_, _, rfl, run_takeDeferred ((hb8.block D (hp_lt H7.out.2.2.1)).trans H7.out.2.2.1), ?_⟩⟩
      refine ⟨_, results_tmp rfl _ _ _, rfl, ?_⟩
      have hB8 : Below w.heap.size w w8 := H7.out.2.2.2.trans (hb8.mono H7.out.2.2.2.size)
      exact hB8.trans ⟨rfl, rfl, rfl, by simp, fun k hk => World.putObj_heap_other (by have := HZ.out; omega)⟩
    · have hgt : 0 < most := by omega
      have hmin : min (ys.length : Int) (most : Int) = (ys.length : Int) := by rcases hpm with h | h; omega; omega
      clear e1 e2 e3 e4 hI hK hTy hpm h0
      gi_wp2_with (first
        | (refine ⟨trivial, ?_⟩; gi_at_call 10; refine (callsIn_wide.2 (to_any HN.out HX.out.2.1)).mono ?_; rintro e w7 ⟨v7, rfl, hi7, hb7⟩
           obtain ⟨A7, c7, rfl⟩ := hi7.slice
           have H7 := Lib.hid (And.intro hi7.read (And.intro (HX.out.2.2.1.on hb7) (And.intro ((hb7.block D (hp_lt HX.out.2.2.2)).trans HX.out.2.2.2) (HX.out.1.trans (hb7.mono HW.out)))))
           clear hi7 hb7)
        | (refine ⟨trivial, ?_⟩; gi_at_call 9; refine (callsIn_wide.2 (same16_yes (ys := ys) HN.out HLL.out HEQ.out H7.out.1 H7.out.2.1)).mono ?_; rintro e w8 ⟨rfl, hb8⟩))
      refine ⟨by simp, .inl ⟨_, _, rfl, run_takeDeferred ((hb8.block D (hp_lt H7.out.2.2.1)).trans H7.out.2.2.1), ?_⟩⟩
      refine ⟨_, results_tmp rfl _ _ _, rfl, ?_⟩
      have hB8 : Below w.heap.size w w8 := H7.out.2.2.2.trans (hb8.mono H7.out.2.2.2.size)
      exact hB8.trans ⟨rfl, rfl, rfl, by simp, fun k hk => World.putObj_heap_other (by have := HZ.out; omega)⟩
  case stop =>
    rintro D c pre W hD hp ⟨rfl, hI, hpl, hpos⟩ hK
    obtain ⟨v, xs, e1, e2, e3, e4⟩ := hI.co
    obtain ⟨A1, c1, rfl⟩ := e3.slice
    have cv := cell_in e2 0 _ rfl
    have cm := cell_in hI.mb 0 _ rfl
    have hwm : IntKind.i64.wrap (most : Int) = (most : Int) := IntWalk.i64_in _ (by omega)
    have hcap := own_cap hI.want.own
    have HW := Lib.hid (Nat.le_of_lt hI.size)
    have hpT := hp.length_le
    have hTy : ys.length = T.length := by have := congrArg List.length HYT.out; rwa [List.length_map] at this
    have hmy : most ≤ ys.length := by omega
    have HN : Hid (xs.length ≤ 1000000) := by have := congrArg List.length e1; rw [List.length_map] at this; rw [Hid]; omega
    have HLL : Hid (∀ x ∈ xs, x.1.l.length ≤ 100000) := fun x hx => by have := HBD.out x.1 (hp.subset (by rw [← e1]; exact List.mem_map.2 ⟨x, hx, rfl⟩)); omega
    have HEQ : Hid (xs.map Prod.fst = (ys.take most).map Prod.fst) := by
      rw [Hid, e1, List.map_take, HYT.out, ← hpl]
      exact List.prefix_iff_eq_take.1 hp
    have htl : (ys.take most).length = most := by rw [List.length_take]; omega
    have hmin : min (ys.length : Int) (most : Int) = (most : Int) := by omega
    have HX := Lib.hid (And.intro e4 (And.intro e3 (And.intro (hI.want.read.take most) hK)))
    have HSM : Hid (∀ (X : World) (A B : Option Addr) (c d : Nat), BRd X A xs → BRd X B (ys.take most) → Calls Tryz.prog 9 #[.slice A xs.length c, .slice B most d] X (BoPost X true)) := fun X A B c d h1 h2 => by
      have := same16_yes (c := c) (c2 := d) HN.out HLL.out HEQ.out h1 h2
      rw [htl] at this
      exact this
    clear e1 e2 e3 e4 hI hK hTy hpT hpl htl
    gi_wp2_with (first
      | (refine ⟨trivial, ?_⟩; gi_at_call 10; refine (callsIn_wide.2 (to_any HN.out HX.out.2.1)).mono ?_; rintro e w7 ⟨v7, rfl, hi7, hb7⟩
         obtain ⟨A7, c7, rfl⟩ := hi7.slice
         have H7 := Lib.hid (And.intro hi7.read (And.intro (HX.out.2.2.1.on hb7) (And.intro ((hb7.block D (hp_lt HX.out.2.2.2)).trans HX.out.2.2.2) (HX.out.1.trans (hb7.mono HW.out)))))
         clear hi7 hb7)
      | (refine ⟨trivial, ?_⟩; gi_at_call 9; refine (callsIn_wide.2 (HSM.out _ _ _ _ _ H7.out.1 H7.out.2.1)).mono ?_; rintro e w8 ⟨rfl, hb8⟩))
    refine ⟨by simp, .inl ⟨_, _, rfl, run_takeDeferred ((hb8.block D (hp_lt H7.out.2.2.1)).trans H7.out.2.2.1), ?_⟩⟩
    refine ⟨_, results_tmp rfl _ _ _, rfl, ?_⟩
    have hB8 : Below w.heap.size w w8 := H7.out.2.2.2.trans (hb8.mono H7.out.2.2.2.size)
    exact hB8.trans ⟨rfl, rfl, rfl, by simp, fun k hk => World.putObj_heap_other (by have := HZ.out; omega)⟩
end Go.Proofs.YtdkgieaanpfhcaaGreatDoor.Wa
