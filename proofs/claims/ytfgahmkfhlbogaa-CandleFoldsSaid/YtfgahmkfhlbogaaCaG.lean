/-
  Spans of a row put together (candle.spans), walked. Conditions: the numbers are of 64 bits.
-/
import Derived.Test.YtfgahmkfhlbogaaCaP
import Derived.Test.YtfgahmkfhlbogaaCaC
namespace Go.Proofs.Ytfgahmkfhlbogaa.Ca
open Go.RowKit Go.Shelf
open Go.Proofs.Ytfgahmkfhlbogaa Go.Proofs.Ytfgahmkfhlbogaa.Hx Go.Proofs.Ytfgahmkfhlbogaa.Rf
attribute [local go_sem] Oper.semAt_some

/-- a row of candles and an error are answered -/
def SpQ (r : List Cd × Int) (w : World) (e : Ending) (w' : World) : Prop :=
  ∃ A c, e = .returned (.tuple #[.slice A r.1.length c, .int .i64 r.2]) ∧ CRow w' A r.1 ∧ (A = none → r.1.length = 0 ∧ c = 0) ∧ (r.1.length ≤ c ∧ c ≤ maxLen) ∧ Below w.heap.size w w'
theorem infoC : (Try.prog.info? 42).map (fun i => (i.zero, i.size, i.bytes)) = some (some (.agg #[.int .i64 0, .int .i64 0, .int .i64 0, .int .i64 0, .int .i64 0, .int .i64 0]), 6, 48) := by kernel_rfl
theorem news_six (w1 : World) (x0 x1 x2 x3 x4 x5 : Value) (t : TypeId) : ∀ j y, [x0, x1, x2, x3, x4, x5][j]? = some y → (w1.alloc (.cells #[x0, x1, x2, x3, x4, x5] t)).cell? ((⟨w1.heap.size, 0, none⟩ : Addr).add j) = some y :=
  World.news_of_block (heap_alloc_new w1 (.cells #[x0, x1, x2, x3, x4, x5] t))
theorem spT_start (w : World) (A : Option Addr) (len c : Nat) (m : Int) :
    let W := (((((w.alloc (.cells #[.func (.func 15) #[] #[]] 54)).alloc (.cells #[.slice none 0 0] 27)).alloc (.cells #[.int .i64 0] 28)).alloc (.cells #[.slice none 0 0] 27)).alloc (.cells #[.slice A len c] 33)).alloc (.cells #[.int .i64 m] 3)
    SpI w (.func (.func 15) #[] #[]) 54 27 28 42 [] (.slice none 0 0) W ∧ W.heap[w.heap.size + 1 + 1 + 1 + 1]? = some (.cells #[.slice A len c] 33 (0, 0)) ∧ W.heap[w.heap.size + 1 + 1 + 1 + 1 + 1]? = some (.cells #[.int .i64 m] 3 (0, 0)) := by
  intro W
  have h1 := heap_alloc_last w (.cells #[.func (.func 15) #[] #[]] 54 (0, 0))
  have h2 := heap_alloc_last (w.alloc (.cells #[.func (.func 15) #[] #[]] 54)) (.cells #[.slice none 0 0] 27 (0, 0))
  have h3 := heap_alloc_last ((w.alloc (.cells #[.func (.func 15) #[] #[]] 54)).alloc (.cells #[.slice none 0 0] 27)) (.cells #[.int .i64 0] 28 (0, 0))
  have h4 := heap_alloc_last (((w.alloc (.cells #[.func (.func 15) #[] #[]] 54)).alloc (.cells #[.slice none 0 0] 27)).alloc (.cells #[.int .i64 0] 28)) (.cells #[.slice none 0 0] 27 (0, 0))
  have h5 := heap_alloc_last ((((w.alloc (.cells #[.func (.func 15) #[] #[]] 54)).alloc (.cells #[.slice none 0 0] 27)).alloc (.cells #[.int .i64 0] 28)).alloc (.cells #[.slice none 0 0] 27)) (.cells #[.slice A len c] 33 (0, 0))
  have h6 := heap_alloc_last (((((w.alloc (.cells #[.func (.func 15) #[] #[]] 54)).alloc (.cells #[.slice none 0 0] 27)).alloc (.cells #[.int .i64 0] 28)).alloc (.cells #[.slice none 0 0] 27)).alloc (.cells #[.slice A len c] 33)) (.cells #[.int .i64 m] 3 (0, 0))
  simp only [World.size_alloc] at h2 h3 h4 h5 h6
  refine ⟨⟨hp_alloc (hp_alloc (hp_alloc (hp_alloc (hp_alloc h1 _) _) _) _) _, hp_alloc (hp_alloc (hp_alloc (hp_alloc h2 _) _) _) _, hp_alloc (hp_alloc (hp_alloc h3 _) _) _, hp_alloc (hp_alloc h4 _) _, World.ownsRow_nil _ _ _ _, ?_, by simp [W]⟩, hp_alloc h5 _, h6⟩
  exact ((((((Below.refl _ w).alloc (Nat.le_refl _) _).alloc (by simp) _).alloc (by simp; omega) _).alloc (by simp; omega) _).alloc (by simp; omega) _).alloc (by simp; omega) _
theorem spansT_none (v0 : Value) (m : Int) (hm : m < 1) (w : World) :
    Calls Try.prog 14 #[v0, .int .i64 m, .func (.func 15) #[] #[]] w (SpQ ([], 2) w) := by
  have B0 := Lib.hid (hp_alloc (hp_second w (.cells #[.func (.func 15) #[] #[]] 54 (0, 0)) (.cells #[.slice none 0 0] 27 (0, 0))) (.cells #[.int .i64 0] 28 (0, 0)))
  have B1 := Lib.hid (hp_third w (.cells #[.func (.func 15) #[] #[]] 54 (0, 0)) (.cells #[.slice none 0 0] 27 (0, 0)) (.cells #[.int .i64 0] 28 (0, 0)))
  go_enter Try.func14, Try.ntmps14
  go_wp2
  refine bodyPost_ret (v := .tuple #[.slice none 0 0, .int .i64 2]) ?_ rfl ⟨none, 0, rfl, fun h => by simp at h, fun _ => ⟨rfl, rfl⟩, ⟨by simp, by unfold maxLen; omega⟩, ?_⟩
  · simp [results, Try.results14, go_sem]
  · exact (((Below.refl _ w).alloc (Nat.le_refl _) _).alloc (by simp) _).alloc (by simp; omega) _
theorem ret_spT {n : Nat} {w W : World} {tmps : Array Value} {D : Nat} {R : Ending → World → Prop} {v : Value} {k : Int} (h6 : tmps[6]? = some (.pointer (some ⟨w.heap.size + 1, 0, none⟩))) (h7 : tmps[7]? = some (.pointer (some ⟨w.heap.size + 1 + 1, 0, none⟩))) (hK : W.heap[D]? = some (.deferred (some [])))
    (hc6 : W.heap[w.heap.size + 1]? = some (.cells #[v] 27 (0, 0))) (hc7 : W.heap[w.heap.size + 1 + 1]? = some (.cells #[.int .i64 k] 28 (0, 0))) (hv : ∃ a b c, v = .slice a b c) (hR : R (.returned (.tuple #[v, .int .i64 k])) (W.putObj D (.deferred none))) :
    bodyPostM Fence.wide n Try.prog Try.f14 R Exit.ret { tmps := tmps, defers := [{ target := .collected D, args := #[] }] } W := by
  refine ⟨by simp, .inl ⟨_, _, rfl, run_takeDeferred hK, ⟨.tuple #[v, .int .i64 k], ?_, hR⟩⟩⟩
  have hres := Try.results14
  obtain ⟨a, b, c, rfl⟩ := hv
  have ne : ∀ j ob, W.heap[j]? = some (.cells ob 27 (0, 0)) ∨ W.heap[j]? = some (.cells ob 28 (0, 0)) → j ≠ D := fun j ob h e => by subst e; rw [hK] at h; rcases h with h | h <;> cases h
  have c6 := (cell1 ((World.putObj_heap_other (o := .deferred none) (ne _ _ (.inl hc6))).trans hc6)).1
  have c7 := (cell1 ((World.putObj_heap_other (o := .deferred none) (ne _ _ (.inr hc7))).trans hc7)).1
  simp [results, hres, go_sem, h6, h7, c6, c7]
set_option maxRecDepth 100000 in
set_option maxHeartbeats 4000000 in
theorem spansT_in (n : Nat) (hn : 4 ≤ n) (A : Option Addr) (c : Nat) (l : List Tk) (hl : l.length ≤ 1000) (hc : l.length ≤ c) (hcm : c ≤ 9223372036854775807) (hok : ∀ x ∈ l, (tkd x).ok) (m : Nat) (hm : 1 ≤ m) (hm2 : m ≤ 9223372036854775807) (w : World) (R : KRow w A l) :
    CallsIn Fence.wide n Try.prog 14 #[.slice A l.length c, .int .i64 m, .func (.func 15) #[] #[]] w (SpQ (spR tkd l m) w) := by
  have h1 : 1 ≤ n := by omega
  have hmI : (1 : Int) ≤ (m : Int) := by omega
  have hmD : decide ((m : Int) < 1) = false := decide_eq_false (by omega)
  have HR := Lib.hid R
  have HOK := Lib.hid hok
  obtain ⟨i0, hi, hz0, hz1, hz2⟩ := info_parts infoC
  have HI := Lib.hid (And.intro hi (And.intro hz0 (And.intro hz1 hz2)))
  have cJ := Lib.hid (fun A' c' W (p : Nat × Nat) (hp : p.2 ≤ 1000) (hq : (seg l p).length = p.2) R' => joinedT_any A' c' (seg l p) (by omega) (fun x hx => HOK.out x (List.mem_of_mem_drop (List.mem_of_mem_take hx))) W R')
  have hS : ∃ W0, W0 = (((((w.alloc (.cells #[.func (.func 15) #[] #[]] 54)).alloc (.cells #[.slice none 0 0] 27)).alloc (.cells #[.int .i64 0] 28)).alloc (.cells #[.slice none 0 0] 27)).alloc (.cells #[.slice A l.length c] 33)).alloc (.cells #[.int .i64 m] 3) := ⟨_, rfl⟩
  obtain ⟨W0, hW0⟩ := hS
  have S0 := Lib.hid (spT_start w A l.length c m)
  rw [← hW0] at S0
  have hz0 : W0.heap.size = w.heap.size + 6 := by rw [hW0]; simp
  have HZ := Lib.hid hz0
  have HWW := Lib.hid hW0
  clear R hok hi hz0 hz1 hz2 hW0
  refine callsIn_of_wp_marks Try.func14 rfl trivial ?_ rfl
  simp only [Try.ntmps14, List.size_toArray, List.length_cons, List.length_nil, Nat.reduceAdd, Nat.reduceSub, Array.replicate_succ, Array.replicate_zero, List.push_toArray, List.append_toArray, List.nil_append, List.cons_append]
  gi_wp2_with (first
    | (refine ⟨trivial, ?_⟩; gi_at_call 22; refine (callsIn_wide.2 (chunkT_any _ _ _ _ hmI _)).mono ?_; rintro e w2 ⟨rfl, hw2⟩; have HW2 := Lib.hid hw2; clear hw2))
  replace HW2 := HW2.out
  subst HW2
  rw [← HWW.out]
  refine range_t rfl h1 (gf := 28) (lb := #[.pointer (some ⟨w.heap.size + 1 + 1 + 1 + 1, 0, none⟩), .pointer (some ⟨w.heap.size + 1 + 1 + 1 + 1 + 1, 0, none⟩)]) rfl trivial (enters_of Try.func28 (by kernel_rfl) rfl)
    (w0 := W0) (encs := encK A 2) (L := parts m l.length l.length 0) (Tn := fun _ _ => False) (Kp := KpB (w.heap.size + 1 + 1 + 1 + 1) (w.heap.size + 1 + 1 + 1 + 1 + 1))
    (chunkT_seq (n - 1) hl hc hcm (fun h0 => by obtain ⟨a, rfl, _⟩ := HR.out h0; rfl) hm hm2 S0.out.2.1 S0.out.2.2)
    (fp := []) (by simp) (fun _ _ h => h.elim) KpB.t (fun W l o o' _ h2 h3 _ => kpB_b W l o o' h2 h3) (Below.refl _ _) (fun _ => rfl)
    (fun pre X => (∀ p ∈ pre, (joins z0 (gs tkd l p)).2 = 0) ∧ ∃ v, SpI w (.func (.func 15) #[] #[]) 54 27 28 42 (dn tkd l pre) v X) (fun cd _ X => SpX w 27 28 (spR tkd l m) cd X)
    (fun s A C row ⟨h1, v, h2⟩ hg hr => ⟨h1, v, h2.free hg (fun r e => by have := hr r e; exact ⟨by have := this.1; have := HZ.out; omega, this.2⟩)⟩)
    (fun cd s A C row h hg hr => h.free hg (fun r e => by have := hr r e; exact ⟨by have := this.1; have := HZ.out; omega, this.2⟩))
    (fun _ _ _ _ h => h.elim) ⟨fun p hp => by simp at hp, _, S0.out.1⟩
    (fun x => { tmps := #[.slice A l.length c, .int .i64 m, .func (.func 15) #[] #[], undef, undef, .pointer (some ⟨w.heap.size, 0, none⟩), .pointer (some ⟨w.heap.size + 1, 0, none⟩), .pointer (some ⟨w.heap.size + 1 + 1, 0, none⟩), .pointer (some ⟨w.heap.size + 1 + 1 + 1, 0, none⟩), .slice (A.map (fun a => a.add (x.1 * 2))) x.2 x.2, undef, undef, .int .i64 m, .bool false, .slice A l.length c, .int .i64 m,
      .func (.func 28) #[] #[.pointer (some ⟨w.heap.size + 1 + 1 + 1 + 1, 0, none⟩), .pointer (some ⟨w.heap.size + 1 + 1 + 1 + 1 + 1, 0, none⟩)], .slice (A.map (fun a => a.add (x.1 * 2))) x.2 x.2, undef, undef, undef, undef, undef, undef, undef, undef, undef, undef, undef, undef, undef, undef], defers := [] })
    ?assign ?body ?done ?stop
  case assign =>
    rintro lp x X K hK
    dsimp only [encK]
    gi_wp2
    exact hK
  case body =>
    rintro lp pre x X ⟨i1, v, i2⟩ hpre
    obtain ⟨px1, px2⟩ := parts_mem m l.length l.length 0 x (hpre.subset (by simp))
    obtain ⟨a, rfl, _⟩ := HR.out (by omega)
    have hn1 : 1 ≤ n - 1 - 1 := by omega
    have hsg : (seg l x).length = x.2 := by simp [seg]; omega
    have hRX : KRow X (some (a.add (x.1 * 2))) (seg l x) := (HR.out.seg x.1 x.2).on i2.below
    have cx := Lib.hid (cJ.out (some (a.add (x.1 * 2))) x.2 X x (by omega) hsg hRX)
    rw [hsg] at cx
    obtain ⟨r, hr⟩ : ∃ r, r = joins z0 (gs tkd l x) := ⟨_, rfl⟩
    have HGS := Lib.hid hr
    replace cx : Hid (Calls Try.prog 23 #[.slice (some (a.add (x.1 * 2))) x.2 x.2, .func (.func 15) #[] #[]] X (JsQ r X)) := by rw [hr]; exact cx
    clear hr hsg hRX
    obtain ⟨q, k⟩ := r
    unfold JsQ cv at cx
    simp only at cx
    have I2 := Lib.hid i2
    have HP := Lib.hid hpre
    obtain ⟨x5, -⟩ := cell1 i2.f5
    have hsX := i2.size
    have HPL : Hid (pre.length ≤ 1000) := Lib.hid (by
      have h2 := (hpre.length_le)
      have h3 := parts_len m l.length hm l.length 0
      simp at h2
      omega)
    clear i2 hpre px1 px2
    dsimp only [Option.map_some]
    by_cases hk : k = 0
    · subst hk
      gi_wp2_with (first
        | (refine ⟨trivial, ?_⟩; gi_at_call 23; (with_reducible refine (CallsIn.inRound lp (callsIn_wide.2 cx.out)).mono ?_); rintro e w3 ⟨rfl, hb3⟩
           have I3 := Lib.hid (I2.out.on hb3)
           have KF := Lib.hid (kf_below (B := W0.heap.size) hb3)
           have KP := Lib.hid (KpB.of_below (bs := w.heap.size + 1 + 1 + 1 + 1) (bn := w.heap.size + 1 + 1 + 1 + 1 + 1) hb3)
           have I4 := Lib.hid (I3.out.on ((Below.refl _ w3).alloc (Nat.le_refl _) (.cells #[.int .i64 q.f, .int .i64 q.h, .int .i64 q.l, .int .i64 q.a, .int .i64 q.s, .int .i64 q.n] 42)))
           obtain ⟨x8, -⟩ := cell1 I3.out.o8
           have hz3 : w.heap.size + 1 + 1 + 1 < w3.heap.size := by have := I3.out.size; omega
           clear hb3)
        | (gi_at_builtin
           refine wpListIn_append_own _ rfl (.tmp 27) (.tmp 29) 27 rfl (w.heap.size + 6) 42 i0 _ 6 48 Try.underlying27 HI.out.1 HI.out.2.1 HI.out.2.2.1 HI.out.2.2.2 rfl (by decide) v (dn tkd l pre).length (cCells (dn tkd l pre)) rfl (own_on I4.out.own ((Below.refl _ _).alloc (Nat.le_refl _) _)) ⟨w3.heap.size + 1, 0, none⟩ 1 1 (cq q) rfl rfl (fun j y hj => by have h := news_six (w3.alloc (.cells #[.int .i64 q.f, .int .i64 q.h, .int .i64 q.l, .int .i64 q.a, .int .i64 q.s, .int .i64 q.n] 42)) (.int .i64 q.f) (.int .i64 q.h) (.int .i64 q.l) (.int .i64 q.a) (.int .i64 q.s) (.int .i64 q.n) 42 j y hj; rw [World.size_alloc] at h; exact h) (by simp [cq, Value.oneCell']) (by have : pre.length ≤ 1000 := HPL.out; simp only [dn, List.length_map]; unfold maxLen; omega) (by have : pre.length ≤ 1000 := HPL.out; simp only [dn, List.length_map]; omega) (by have := I3.out.size; simp; omega) ?_
           intro v7 w7 hown hgr _
           have hown2 : w7.ownsRow (w.heap.size + 6) 42 6 v7 (dn tkd l pre ++ [q]).length (cCells (dn tkd l pre ++ [q])) := by rw [cCells_snoc, List.length_append]; exact hown
           have I5 := Lib.hid (I4.out.on ((Below.refl _ _).alloc (Nat.le_refl _) (.cells #[.int .i64 q.f, .int .i64 q.h, .int .i64 q.l, .int .i64 q.a, .int .i64 q.s, .int .i64 q.n] 42)))
           have h8 := (hgr.block (w.heap.size + 1 + 1 + 1) (by have := I5.out.size; omega) (fun e => by have := (I5.out.own.lt _ e.symm).1; omega)).trans I5.out.o8
           obtain ⟨y8, g8⟩ := cell1 h8
           obtain ⟨A7, c7, rfl, -⟩ := crow_of hown2
           have I7 := Lib.hid (I5.out.put hgr hown2)
           have KF7 := Lib.hid ((((KF.out.trans (kf_below ((Below.refl _ w3).alloc (Nat.le_refl _) _))).trans (kf_below ((Below.refl _ _).alloc (Nat.le_refl _) _))).trans (kf_own I5.out.own hgr)).trans (kf_set (i := 0) h8 (.slice A7 (dn tkd l pre ++ [q]).length c7)))
           have KP7 := Lib.hid ((((KP.out.t (KpB.of_below ((Below.refl _ w3).alloc (Nat.le_refl _) _))).t (KpB.of_below ((Below.refl _ _).alloc (Nat.le_refl _) _))).t (kpB_own I5.out.own hgr (by omega) (by omega))).t (kpB_set (i := 0) (v := .slice A7 (dn tkd l pre ++ [q]).length c7) (b := w.heap.size + 1 + 1 + 1) (by omega) (by omega)))
           clear hown hown2 hgr h8))
      have e1 : (dn tkd l pre ++ [q]).length = (dn tkd l pre).length + 1 := by simp
      have K1 := KF7.out
      have K2 := KP7.out
      have K3 := I7.out
      rw [e1] at K1 K2 K3
      refine ⟨K1, K2, ?_, .slice A7 ((dn tkd l pre).length + 1) c7, ?_⟩
      · intro p hp
        rcases List.mem_append.1 hp with hp | hp
        · exact i1 p hp
        · simp at hp; subst hp; rw [← HGS.out]
      · rw [dn_snoc, ← HGS.out]; exact K3
    · have hk' : (k != 0) = true := by simpa using hk
      have HK := Lib.hid hk
      have HX : Hid (spR tkd l m = ([], k)) := by
        rw [Hid, spR_bad tkd l HP.out i1 (by rw [← HGS.out]; exact hk), ← HGS.out]
      clear hk
      gi_wp2_with (first
        | (refine ⟨trivial, ?_⟩; gi_at_call 23; (with_reducible refine (CallsIn.inRound lp (callsIn_wide.2 cx.out)).mono ?_); rintro e w3 ⟨rfl, hb3⟩
           have I3 := Lib.hid (I2.out.on hb3)
           have KF := Lib.hid (kf_below (B := W0.heap.size) hb3)
           have I4 := Lib.hid (I3.out.on ((Below.refl _ w3).alloc (Nat.le_refl _) (.cells #[.int .i64 q.f, .int .i64 q.h, .int .i64 q.l, .int .i64 q.a, .int .i64 q.s, .int .i64 q.n] 42)))
           obtain ⟨x6, g6⟩ := cell1 I3.out.r6
           obtain ⟨x7, g7⟩ := cell1 I3.out.r7
           have hz3 : w.heap.size + 1 + 1 < w3.heap.size := by have := I3.out.size; omega
           have hz4 : w.heap.size + 1 < w3.heap.size := by have := I3.out.size; omega
           clear hb3))
      have h6 := set1_row I3.out.r6 (.slice none 0 0)
      have h7 := set_other (i := 0) (b := w.heap.size + 1) I3.out.r7 (by omega) (.slice none 0 0)
      refine ⟨((KF.out.trans (kf_set (i := 0) I3.out.r6 _)).trans (kf_set (i := 0) h7 _)).trans (kf_below ((Below.refl _ _).alloc (Nat.le_refl _) _)), rfl, by rw [HX.out], hp_alloc (set_other h6 (by omega) _) _, by rw [HX.out]; exact hp_alloc (set1_row h7 _) _, ((I3.out.below.setCell (p := ⟨w.heap.size + 1, 0, none⟩) (by simp) _).setCell (p := ⟨w.heap.size + 1 + 1, 0, none⟩) (by simp; omega) _).alloc (by simp; omega) _⟩
  case done =>
    rintro D X hD ⟨i1, v, i2⟩ hK
    obtain ⟨AO, co, rfl, -, hnil, hco1, hco2⟩ := crow_of i2.own
    have I2 := Lib.hid i2
    have HK := Lib.hid hK
    have HC := Lib.hid (And.intro hnil (And.intro hco1 hco2))
    obtain ⟨x8, -⟩ := cell1 i2.o8
    obtain ⟨x6, g6⟩ := cell1 i2.r6
    obtain ⟨x7, g7⟩ := cell1 i2.r7
    have HX := Lib.hid (spR_all tkd l i1)
    clear i2 hK hnil hco1 hco2
    gi_wp2
    have hX : ((X.setCell ⟨w.heap.size + 1, 0, none⟩ (.slice AO (dn tkd l (parts m l.length l.length 0)).length co)).setCell ⟨w.heap.size + 1 + 1, 0, none⟩ (.int .i64 0)).heap[D]? = some (.deferred (some [])) := set_other (set_other HK.out (by have := HZ.out; omega) _) (by have := HZ.out; omega) _
    refine ret_spT rfl rfl hX (set_other (set1_row I2.out.r6 _) (by omega) _) (set1_row (set_other (i := 0) (b := w.heap.size + 1) I2.out.r7 (by omega) _) _) ⟨_, _, _, rfl⟩ ?_
    rw [HX.out]
    refine ⟨AO, co, rfl, ?_, HC.out.1, HC.out.2, ((I2.out.below.setCell (p := ⟨w.heap.size + 1, 0, none⟩) (by simp) _).setCell (p := ⟨w.heap.size + 1 + 1, 0, none⟩) (by simp; omega) _).trans (belowK_b (w := w) (Nat.le_refl _) _ D _ _ (by have := HZ.out; omega) hX rfl rfl)⟩
    exact crow_at (own_grown (grownBy_putObj' _ D (.deferred none)) (fun r e => by cases e; exact ⟨_, hX, rfl⟩) (own_set (own_set I2.out.own (by omega)) (by omega)))
  case stop =>
    rintro D cd pre X hD hpre h hK
    obtain rfl := h.cd
    gi_wp2
    refine ret_spT rfl rfl hK h.r6 h.r7 ⟨_, _, _, rfl⟩ ⟨none, 0, by rw [h.nil]; rfl, fun h0 => by rw [h.nil] at h0; simp at h0, fun _ => ⟨by rw [h.nil]; rfl, rfl⟩, ⟨by rw [h.nil]; simp, by unfold maxLen; omega⟩, h.below.trans (belowK_b (w := w) (Nat.le_refl _) _ D _ _ (by have := HZ.out; omega) hK rfl rfl)⟩
end Go.Proofs.Ytfgahmkfhlbogaa.Ca
