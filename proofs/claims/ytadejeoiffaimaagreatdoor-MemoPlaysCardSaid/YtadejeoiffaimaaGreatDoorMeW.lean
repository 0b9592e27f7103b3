/-
  The entries of a memo collected: the Go text of the laws' Row walked. Conditions: as each theorem states.
-/
import Derived.Test.YtadejeoiffaimaaGreatDoorMeV
namespace Go.Proofs.YtadejeoiffaimaaGreatDoor.Me
open Go.RowKit Go.Shelf
open Vi
open Go.Proofs.YtadejeoiffaimaaGreatDoor.Rf
open Go.Proofs.YtadejeoiffaimaaGreatDoor.Sk (feet Lst Moves Only encP SkAt pairs TnL KpL CapL)

attribute [local go_sem] Oper.semAt_some

/-- which rows a memo gives: from a key on, or up to one -/
def Gives (gf : Nat) (k : ByteArray) (E L : List En) : Prop :=
  (∃ key, gf = 63 ∧ k = plc (least key 18446744073709551615) ∧ L = fromE E key) ∨ (∃ key, gf = 55 ∧ k = downKey key ∧ L = downE E key)
theorem gives_len {gf : Nat} {k : ByteArray} {E L : List En} (h : Gives gf k E L) : L.length ≤ E.length ∧ ∀ x ∈ L, x ∈ E := by
  rcases h with ⟨key, _, _, rfl⟩ | ⟨key, _, _, rfl⟩
  · exact ⟨List.length_filter_le _ _, fun x hx => (List.mem_filter.1 hx).1⟩
  · unfold downE
    exact ⟨by rw [List.length_reverse]; exact List.length_filter_le _ _, fun x hx => (List.mem_filter.1 (List.mem_reverse.1 hx)).1⟩
theorem least_wf (key : ByteArray) : (least key 18446744073709551615).wf := ⟨by show 18446744073709551615 < 18446744073709551616; decide, by show (-9223372036854775808 : Int) ≤ 255; decide, by show (255 : Int) ≤ 9223372036854775807; decide⟩
/-- what a memo's iterator gives -/
theorem gseq (n : Nat) (hn : 3 ≤ n) {w : World} {b l k : Nat} {v : Value} {E L : List En} {m : Int} (h : MemAt w b l v E k m) {gf bl : Nat} {kk : ByteArray} (hc : ACap w gf bl (some ⟨l, 0, none⟩) kk) (hg : Gives gf kk E L) (hfr : ∀ j ∈ feet l v, j < bl) :
    ∃ s bytes st, SkAt w l v s bytes st ∧ pairs s = E.map pr ∧ s.n = k ∧ ∀ S : List Nat, (∀ j ∈ S, j < w.heap.size) → (∀ j ∈ S, (j ≠ bl ∧ j ≠ bl + 1) ∧ j ∉ feet l v ∧ j ≠ 0) →
      SeqT Fence.wide n Tryz.prog 53 #[.pointer (some ⟨bl + 2, 0, none⟩)] encE (TnL l v s bytes) (KeepsC S w.heap.size) L w := by
  rcases hg with ⟨key, rfl, rfl, rfl⟩ | ⟨key, rfl, rfl, rfl⟩
  · have := mseq n hn h hc (least_wf key) hfr
    rw [from_is h.good] at this
    exact this
  · obtain ⟨s, bytes, st, hs, hp, hk⟩ := h.lst
    have hlt := hc.lt
    have hC : CapL bl (bl + 1) l v s bytes (downKey key) st w := ⟨hs, hc.hl, hc.hk, fun hm => by have := hfr _ hm; omega, fun hm => by have := hfr _ hm; omega⟩
    refine ⟨s, bytes, st, hs, hp, hk, fun S hS hS2 => ?_⟩
    have hin := Sk.down_seq (n - 1) (by omega) hC
    have hL : Sk.downL s (downKey key) = (downE E key).map pr := by
      rw [Sk.down_is hs.ok, hp]
      unfold downKey
      by_cases hk0 : key = ⟨#[]⟩
      · rw [if_pos hk0, hk0, dn_all, down_all]
      · rw [if_neg hk0, dn_e h.good ⟨by show 0 < 18446744073709551616; decide, by show (-9223372036854775808 : Int) ≤ 0; decide, by show (0 : Int) ≤ 9223372036854775807; decide⟩, down_is h.good key hk0]
    rw [hL] at hin
    refine entries_seq n hn hc.hp (enters_of Tryz.func55 (by kernel_rfl) rfl) hin (fp := feet l v) (fun j hj => hs.lt j hj) (fun A B ht => ht.1) (fun h k => h.t k)
      (fun W j o o' hj ho hcl hw => ⟨World.putObj_heap_other (by omega), World.putObj_heap_other (by omega), fun i hi => World.putObj_heap_other (by have := hs.lt i hi; omega)⟩)
      (fun A B hk => ⟨hk.1 _ (by omega) (fun hm => by have := (hS2 _ hm).1; omega), hk.1 _ (by omega) (fun hm => by have := (hS2 _ hm).1; omega), fun i hi => hk.1 _ (hs.lt i hi) (fun hm => (hS2 _ hm).2.1 hi)⟩)
      hS (fun hm => by have := h.low 0 hm; omega) (fun hm => (hS2 0 hm).2.2 rfl) h.glo (fun x hx => h.good x ((gives_len (.inr ⟨key, rfl, rfl, rfl⟩)).2 x hx))
/-- Row's own memory -/
structure RW (N mx : Nat) (q : List En) (vv : Value) (W : World) : Prop where
  most : W.heap[N]? = some (.cells #[.int .i64 (mx : Nat)] 3 (0, 0))
  out : W.heap[N + 1]? = some (.cells #[vv] 22 (0, 0))
  row : W.ownsRow (N + 2) 30 4 vv q.length (eRow q)
theorem RW.kept {N m : Nat} {q : List En} {vv : Value} {A B : World} (h : RW N m q vv A) (hk : ∀ k o, N ≤ k → A.heap[k]? = some o → o.isCells = true → B.heap[k]? = A.heap[k]?) : RW N m q vv B :=
  ⟨(hk N _ (Nat.le_refl _) h.most rfl).trans h.most, (hk (N + 1) _ (by omega) h.out rfl).trans h.out, Sk.ownsRow_kept h.row (fun g hg => by
    obtain ⟨cur, hc⟩ := Sk.own_cells h.row hg
    exact hk g _ (by have := Sk.own_ge h.row hg; omega) hc rfl)⟩
theorem RW.grown {N m : Nat} {q : List En} {vv : Value} {A B : World} {row : Option Nat} (h : RW N m q vv A) (hg : A.grownBy B row) (hr : ∀ r, row = some r → ∃ o : Obj, A.heap[r]? = some o ∧ o.isCells = false) : RW N m q vv B :=
  h.kept fun _ _ _ ho hc => cells_grown hg hr ho hc
theorem RW.only {N m : Nat} {q : List En} {vv : Value} {A B : World} {fp : List Nat} (h : RW N m q vv A) (hg : Only fp A B) (hf : ∀ k ∈ fp, k < N) : RW N m q vv B :=
  h.kept fun k o hN ho _ => hg.block k (Array.getElem?_eq_some_iff.1 ho).1 (fun e => by have := hf k e; omega)
theorem RW.below {N m : Nat} {q : List En} {vv : Value} {A B : World} (h : RW N m q vv A) (hb : Below A.heap.size A B) : RW N m q vv B :=
  h.kept (fun k o _ ho _ => hb.block k (Array.getElem?_eq_some_iff.1 ho).1)
def Row8 (w : World) (b l : Nat) (v : Value) (E : List En) (k : Nat) (m : Int) (q : List En) (r : Ending) (w' : World) : Prop :=
  ∃ vv, r = .returned vv ∧ w'.ownsRow w.heap.size 30 4 vv q.length (eRow q) ∧ MemAt w' b l v E k m ∧ Only (feet l v) w w'
set_option maxRecDepth 100000 in
set_option maxHeartbeats 4000000 in
theorem row8_in (n : Nat) (hn : 5 ≤ n) {w : World} {b l k : Nat} {v : Value} {E L : List En} {m : Int} (h : MemAt w b l v E k m) {gf bl : Nat} {kk : ByteArray} (hc : ACap w gf bl (some ⟨l, 0, none⟩) kk) (hg : Gives gf kk E L) (hfr : ∀ j ∈ feet l v, j < bl) (hE : L.length ≤ 1000) (mx : Nat) (hmx : mx ≤ 9223372036854775807) :
    CallsIn Fence.wide n Tryz.prog 19 #[.func (.func 53) #[] #[.pointer (some ⟨bl + 2, 0, none⟩)], .int .i64 (mx : Nat)] w (Row8 w b l v E k m (L.take mx)) := by
  have h1 : 1 ≤ n := by omega
  have HB0 : Below w.heap.size w ((w.alloc (.cells #[.int .i64 (mx : Nat)] 3)).alloc (.cells #[.slice none 0 0] 22)) := ((Below.refl _ w).alloc (Nat.le_refl _) _).alloc (by simp) _
  have hr0 := heap_alloc_new (w.alloc (.cells #[.int .i64 (mx : Nat)] 3)) (.cells #[.slice none 0 0] 22)
  rw [World.size_alloc] at hr0
  have hW0 : RW w.heap.size mx [] (.slice none 0 0) ((w.alloc (.cells #[.int .i64 (mx : Nat)] 3)).alloc (.cells #[.slice none 0 0] 22)) := ⟨old_alloc (heap_alloc_new w _) _, hr0, ⟨rfl, .inl ⟨rfl, rfl⟩⟩⟩
  have hsz : ((w.alloc (.cells #[.int .i64 (mx : Nat)] 3)).alloc (.cells #[.slice none 0 0] 22)).heap.size = w.heap.size + 2 := by simp
  have HM := Lib.hid h
  have HW0 := Lib.hid hW0
  have hcl := hc.lt
  have hc0 := Lib.hid (hc.below HB0)
  have hfl := h.lst.lt
  clear hr0 hW0
  refine callsIn_of_wp_marks Tryz.func19 rfl trivial ?_ rfl
  simp only [Tryz.ntmps19, List.size_toArray, List.length_cons, List.length_nil, Nat.reduceAdd, Nat.reduceSub, Array.replicate_succ, Array.replicate_zero, List.push_toArray, List.append_toArray, List.nil_append, List.cons_append]
  gi_wp2
  have hMem0 := HM.out.below HB0
  have hW0 := HW0.out
  generalize (w.alloc (.cells #[.int .i64 (mx : Nat)] 3)).alloc (.cells #[.slice none 0 0] 22) = W0 at *
  obtain ⟨s, bytes, st, hs, hp, hkn, hseq⟩ := gseq (n - 1) (by omega) hMem0 hc0.out hg hfr
  have hSEQ := hseq [w.heap.size + 1] (fun j hj => by simp at hj; omega) (fun j hj => ⟨by simp at hj; omega, fun hm => by have := hfl j hm; simp at hj; omega, by simp at hj; omega⟩)
  clear hseq
  refine range_u rfl h1 (gf := 53) (lb := #[.pointer (some ⟨bl + 2, 0, none⟩)]) rfl trivial (enters_of Tryz.func53 (by kernel_rfl) rfl) (w0 := W0) hSEQ (fp := feet l v) (fun j hj => by have := hfl j hj; omega) (fun A B ht => ht.1) (fun h k => h.t k)
    (fun X lq o o' hl ho hc hw => keepsC_b X lq o o' hl ho hc) (Below.refl _ _) (fun _ => rfl)
    (fun pre X => (∃ vv, RW w.heap.size mx pre vv X ∧ pre.length ≤ mx) ∧ Only (feet l v) w X ∧ W0.heap.size ≤ X.heap.size ∧ ∃ st, SkAt X l v s bytes st)
    (fun c pre X => (c = .exit 0 ∧ ∃ vv q x, pre = q ++ [x] ∧ RW w.heap.size mx q vv X ∧ q.length = mx) ∧ Only (feet l v) w X ∧ ∃ st, SkAt X l v s bytes st)
    ?hI ?hIx ?hIT ⟨⟨_, hW0, Nat.zero_le _⟩, Only.of_below HB0, Nat.le_refl _, st, hs⟩
    (fun x a' X => ∃ g, W0.heap.size ≤ g ∧ X.heap[g]? = some (.cells (agE x) 30 (0, 0)) ∧ a' = { tmps := #[.func (.func 53) #[] #[.pointer (some ⟨bl + 2, 0, none⟩)], .int .i64 (mx : Nat), undef, .pointer (some ⟨w.heap.size, 0, none⟩), .slice none 0 0, .pointer (some ⟨w.heap.size + 1, 0, none⟩), .pointer (some ⟨g, 0, none⟩), .func (.func 53) #[] #[.pointer (some ⟨bl + 2, 0, none⟩)], .agg (agE x), undef, undef, undef, undef, undef, undef, undef, undef, undef], defers := [] })
    ?hAx ?assign ?body ?done ?stop
  case hI =>
    rintro s' A B row ⟨⟨vv, hR, hl⟩, ho, hws, st', hsk⟩ hg hr
    have hb : Below w.heap.size A B := (Below.refl _ A).grown hg ho.size (fun k e => by have := (hr k e).1; omega)
    exact ⟨⟨vv, hR.grown hg (fun r e => (hr r e).2), hl⟩, ho.onTo (Nat.le_refl _) hb, Nat.le_trans hws hg.size, st', hsk.kept (fun j hj => hb.block j (hfl j hj))⟩
  case hIx =>
    rintro c s' A B row ⟨⟨rfl, vv, q, x, hq, hR, hl⟩, ho, st', hsk⟩ hg hr
    have hb : Below w.heap.size A B := (Below.refl _ A).grown hg ho.size (fun k e => by have := (hr k e).1; omega)
    exact ⟨⟨rfl, vv, q, x, hq, hR.grown hg (fun r e => (hr r e).2), hl⟩, ho.onTo (Nat.le_refl _) hb, st', hsk.kept (fun j hj => hb.block j (hfl j hj))⟩
  case hIT =>
    rintro pre A B ⟨⟨vv, hR, hl⟩, ho, hws, st', hsk⟩ ht
    exact ⟨⟨vv, hR.only ht.1 hfl, hl⟩, ho.trans ht.1, Nat.le_trans hws ht.1.size, ht.2 st' hsk⟩
  case hAx =>
    rintro x a' s' A B row ⟨g, h1, h2, h3⟩ hg hr
    exact ⟨g, h1, (cells_grown hg (fun r e => (hr r e).2) h2 rfl).trans h2, h3⟩
  case assign =>
    rintro l' pre x X K ⟨⟨vv, hR, hl⟩, ho, hws, st', hsk⟩ hlen hK
    dsimp only [encE]
    gi_wp2
    have hb : Below X.heap.size X (X.alloc (.cells #[.string x.key, .int .u64 x.seq, .int .i64 x.kind, .string x.val] 30)) := (Below.refl _ X).alloc (Nat.le_refl _) _
    exact hK _ _ ⟨⟨vv, hR.below hb, hl⟩, ho.onTo ho.size hb, Nat.le_trans hws hb.size, st', hsk.below hb⟩ (KeepsFrom.of_grownBy (Sk.grown_below hb none) (fun j e => by cases e)) (KeepsC.of_below hb hws) ⟨X.heap.size, hws, heap_alloc_new X _, rfl⟩
  case body =>
    rintro l' pre x a' X ⟨⟨vv, hR, hl⟩, ho, hws, st', hsk⟩ hlen ⟨g, hg, hX, rfl⟩
    obtain ⟨va, vc, rfl⟩ := Sk.row_slice hR.row
    have c0 := cell_in hR.most 0 (.int .i64 (mx : Nat)) rfl
    have c1 := cell_in hR.out 0 (.slice va pre.length vc) rfl
    have f1 := Sk.free_in hR.out 0
    obtain ⟨z0, z1, z2, z3⟩ := box4 hX
    have hinf := ent_info
    have hN1 : w.heap.size + 1 < X.heap.size := (Array.getElem?_eq_some_iff.1 hR.out).1
    dsimp only [agE]
    by_cases hm2 : pre.length < mx
    · obtain ⟨i0, hi0, hz0, hz1, hz2⟩ := info_parts infoE
      have HI := Lib.hid (And.intro hi0 (And.intro hz0 (And.intro hz1 hz2)))
      have hne : Hid (some (w.heap.size + 1) ≠ (Value.slice va pre.length vc).ownBlock) := fun e => by have := Sk.own_ge hR.row e.symm; omega
      have hRow := Lib.hid hR.row
      have HR := Lib.hid hR
      have HO := Lib.hid (And.intro ho hsk)
      have hpl : pre.length ≤ 1000 := by
        have := hlen.length_le
        simp at this; omega
      clear hi0 hz0 hz1 hz2 hR ho hsk
      gi_wp2_with (first
        | (gi_at_builtin
           refine wpListIn_append_own_at _ rfl (.tmp 13) (.tmp 15) 22 rfl (w.heap.size + 2) 30 i0 _ 4 48 Tryz.underlying22 HI.out.1 HI.out.2.1 HI.out.2.2.1 HI.out.2.2.2 rfl (by decide) (.slice va pre.length vc) pre.length (eRow pre) rfl (hRow.out.alloc _) ⟨X.heap.size, 0, none⟩ 1 1 (eCells x) rfl rfl (enews _ _ rfl _ _) (e_one x) (by unfold maxLen; omega) (by omega) (by simp; omega) ?_
           intro v' w4 hown4 hgrow4 _ hwhere
           obtain ⟨va', vc', rfl⟩ := Sk.row_slice hown4
           have hB4 : (k : Nat) → k < X.heap.size → some k ≠ (Value.slice va pre.length vc).ownBlock → w4.heap[k]? = X.heap[k]? := fun k hk hn => (hgrow4.block k (by simp; omega) hn).trans (Below.heap_alloc X _ k hk)
           have c4 : w4.cell? ⟨w.heap.size + 1, 0, none⟩ = some (.slice va pre.length vc) := (World.cell?_of_block (hB4 _ hN1 hne.out)).trans c1
           have f4 : w4.frozen? ⟨w.heap.size + 1, 0, none⟩ = false := (World.frozen?_of_block (hB4 _ hN1 hne.out)).trans f1
           have H4 := Lib.hid (And.intro hown4 (And.intro hgrow4 (And.intro hwhere hB4)))
           clear hown4 hgrow4 hwhere hB4))
      obtain ⟨hown4, hgrow4, hwhere, hB4⟩ := H4.out
      have hbel : Below (w.heap.size + 1) X w4 := by
        have h0 : Below (w.heap.size + 1) (X.alloc (.cells #[.string x.key, .int .u64 x.seq, .int .i64 x.kind, .string x.val] 30)) w4 := (Below.refl _ _).grown hgrow4 (by simp; omega) (fun k e => by have := Sk.own_ge hRow.out e; omega)
        exact ((Below.refl _ X).alloc (by omega) _).trans h0
      have hnv : (Value.slice va' (pre.length + 1) vc').ownBlock ≠ some (w.heap.size + 1) := by
        rcases hwhere with h | h
        · rw [h]; exact Ne.symm hne.out
        · rw [h]; simp; omega
      have hkc : KeepsC [w.heap.size + 1] W0.heap.size X (w4.setCell ⟨w.heap.size + 1, 0, none⟩ (.slice va' (pre.length + 1) vc')) := by
        refine ⟨fun k hk hn => ?_, fun k c fr hk hc => ?_⟩
        · simp at hn
          exact (Below.heap_setCell _ ⟨w.heap.size + 1, 0, none⟩ _ k hn).trans (hB4 k (by omega) (fun e => by have := Sk.own_ge hRow.out e.symm; omega))
        · have hl := (Array.getElem?_eq_some_iff.1 hc).1
          refine ((Below.heap_setCell _ ⟨w.heap.size + 1, 0, none⟩ _ k (show k ≠ w.heap.size + 1 by omega)).trans (hB4 k hl (fun e => ?_))).trans hc
          obtain ⟨cur, h2⟩ := Sk.own_cells hRow.out e.symm
          rw [hc] at h2; injection h2 with h2; injection h2 with _ h3; cases h3
      have hb5 : Below w.heap.size X (w4.setCell ⟨w.heap.size + 1, 0, none⟩ (.slice va' (pre.length + 1) vc')) := (hbel.mono (by omega)).setCell (p := ⟨w.heap.size + 1, 0, none⟩) (Nat.le_succ _) _
      refine ⟨KeepsOthers.from ?_ _, hkc, ⟨.slice va' (pre.length + 1) vc', ⟨?_, ?_, ?_⟩, by simp; omega⟩, HO.out.1.onTo (Nat.le_refl _) hb5, Nat.le_trans hws hb5.size, st', HO.out.2.kept (fun j hj => hb5.block j (hfl j hj))⟩
      · exact ((KeepsOthers.alloc X _).trans (KeepsOthers.of_grownBy hgrow4 (fun r o e ho => by
          obtain ⟨cur, hc⟩ := Sk.own_cells (hRow.out.alloc (.cells #[.string x.key, .int .u64 x.seq, .int .i64 x.kind, .string x.val] 30)) e
          rw [hc] at ho; injection ho with ho; subst ho; rfl))).trans (KeepsOthers.setCell _ _ _)
      · exact (Below.heap_setCell _ _ _ _ (by simp)).trans ((hbel.block _ (by omega)).trans HR.out.most)
      · have h0 := heap_set ((hB4 _ hN1 hne.out).trans HR.out.out) 0 (.slice va' (pre.length + 1) vc')
        simpa using h0
      · have h0 := Sk.ownsRow_kept (w' := w4.setCell ⟨w.heap.size + 1, 0, none⟩ (.slice va' (pre.length + 1) vc')) hown4 (fun g hg => Below.heap_setCell _ _ _ _ (fun e => hnv (by rw [hg, e])))
        rw [eRow_snoc] at h0
        rw [List.length_append]; exact h0
    · have hm3 : mx ≤ pre.length := by omega
      have HX := Lib.hid (And.intro hR (And.intro ho hsk))
      clear hR ho hsk
      gi_wp2
      exact ⟨KeepsFrom.refl _ _, ⟨rfl, _, pre, x, rfl, HX.out.1, by omega⟩, HX.out.2.1, st', HX.out.2.2⟩
  case done =>
    rintro D X hD ⟨⟨vv, hR, hl⟩, ho, hws, st', hsk⟩ hK
    obtain ⟨va, vc, rfl⟩ := Sk.row_slice hR.row
    have hc := cell_in hR.out 0 (.slice va L.length vc) rfl
    have HX := Lib.hid (And.intro hR (And.intro ho hsk))
    clear hR ho hsk
    gi_wp2
    refine ⟨by simp, .inl ⟨_, _, rfl, run_takeDeferred hK, ?_⟩⟩
    obtain ⟨hR, ho, hsk⟩ := HX.out
    have hb : Below w.heap.size X (X.putObj D (.deferred none)) := belowK_b (w := w) (Nat.le_refl _) X D _ _ (by omega) hK rfl rfl
    have ho2 := ho.onTo (Nat.le_refl _) hb
    refine ⟨_, results_tmp rfl _ _ _, _, rfl, ?_, mem_of HM.out ho2 (hsk.kept (fun j hj => hb.block j (hfl j hj))) hp hkn, ho2⟩
    rw [List.take_of_length_le hl]
    exact Sk.own_put hR.row hK
  case stop =>
    rintro D c pre X hD hpre ⟨⟨rfl, vv, q, x, hq, hR, hl⟩, ho, st', hsk⟩ hK
    obtain ⟨va, vc, rfl⟩ := Sk.row_slice hR.row
    have hc := cell_in hR.out 0 (.slice va q.length vc) rfl
    have hq2 : L.take mx = q := by
      obtain ⟨r, hr⟩ := hpre
      rw [hq] at hr
      rw [← hr, ← hl]; simp
    clear hl
    have HX := Lib.hid (And.intro hR (And.intro ho hsk))
    clear hR ho hsk
    gi_wp2
    refine ⟨by simp, .inl ⟨_, _, rfl, run_takeDeferred hK, ?_⟩⟩
    obtain ⟨hR, ho, hsk⟩ := HX.out
    have hb : Below w.heap.size X (X.putObj D (.deferred none)) := belowK_b (w := w) (Nat.le_refl _) X D _ _ (by omega) hK rfl rfl
    have ho2 := ho.onTo (Nat.le_refl _) hb
    refine ⟨_, results_tmp rfl _ _ _, _, rfl, ?_, mem_of HM.out ho2 (hsk.kept (fun j hj => hb.block j (hfl j hj))) hp hkn, ho2⟩
    rw [hq2]
    exact Sk.own_put hR.row hK
theorem row8_any {w : World} {b l k : Nat} {v : Value} {E L : List En} {m : Int} (h : MemAt w b l v E k m) {gf bl : Nat} {kk : ByteArray} (hc : ACap w gf bl (some ⟨l, 0, none⟩) kk) (hg : Gives gf kk E L) (hfr : ∀ j ∈ feet l v, j < bl) (hE : L.length ≤ 1000) (mx : Nat) (hmx : mx ≤ 9223372036854775807) {mi : Int} (hmi : mi = (mx : Nat)) :
    Calls Tryz.prog 19 #[.func (.func 53) #[] #[.pointer (some ⟨bl + 2, 0, none⟩)], .int .i64 mi] w (Row8 w b l v E k m (L.take mx)) := by
  subst hmi
  exact callsIn_wide.1 (row8_in 8 (by omega) h hc hg hfr hE mx hmx)
end Go.Proofs.YtadejeoiffaimaaGreatDoor.Me
