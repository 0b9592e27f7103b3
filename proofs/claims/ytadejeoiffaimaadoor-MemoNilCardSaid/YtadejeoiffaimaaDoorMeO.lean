/-
  A memo that is none, asked for entries: the Go text walked. Conditions: as each theorem states.
-/
import Derived.Test.YtadejeoiffaimaaDoorMeN
namespace Go.Proofs.YtadejeoiffaimaaDoor.Me
open Go.RowKit Go.Shelf
open Vi
open Go.Proofs.YtadejeoiffaimaaDoor.Rf
open Go.Proofs.YtadejeoiffaimaaDoor.Sk (feet Lst Moves Only encP SkAt pairs TnL KpL CapL)

attribute [local go_sem] Oper.semAt_some

theorem no_prefix {α : Type} {pre : List α} {x : α} (h : pre ++ [x] <+: []) : False := by
  have := h.length_le
  simp at this
set_option maxRecDepth 100000 in
set_option maxHeartbeats 4000000 in
theorem get_nil_in (n : Nat) (hn : 5 ≤ n) {w : World} (key : ByteArray) (hk : key.size ≤ 1000000) (at_ : Nat) (ha : at_ < 18446744073709551616) (m : Int) (hm : w.cell? ⟨0, 0, none⟩ = some (.int .i64 m)) :
    CallsIn Fence.wide n Tryd.prog 9 #[.pointer none, .string key, .int .u64 at_] w fun r w' => r = .returned (.tuple #[.agg (agE noEn), .bool false]) ∧ Below w.heap.size w w' := by
  have hb0 : Below w.heap.size w (((w.alloc (.cells #[.string key] 9)).alloc (.cells (agE noEn) 30)).alloc (.cells #[.bool false] 4)) := three_below _ _ _
  have H0 := Lib.hid ((hb0.cell (p := ⟨0, 0, none⟩) (cell_lt hm)).trans hm)
  have G0 := Lib.hid (gw_start w key)
  have B0 := Lib.hid hb0
  have HW : Hid (least key at_).wf := ⟨ha, by show (-9223372036854775808 : Int) ≤ 255; decide, by show (255 : Int) ≤ 9223372036854775807; decide⟩
  have HK : Hid ((least key at_).key.size ≤ 1000000) := hk
  have HK2 : Hid (key.size ≤ 281474976710656) := by rw [Hid]; omega
  have hck := cell_in G0.out.ky 0 _ rfl
  have h1 : 1 ≤ n := by omega
  have h0w : 0 < w.heap.size := cell_lt hm
  clear hm hb0
  refine callsIn_of_wp_marks Tryd.func9 rfl trivial ?_ rfl
  simp only [Tryd.ntmps9, List.size_toArray, List.length_cons, List.length_nil, Nat.reduceAdd, Nat.reduceSub, Array.replicate_succ, Array.replicate_zero, List.push_toArray, List.append_toArray, List.nil_append, List.cons_append]
  gi_wp2_with (first
    | (refine ⟨trivial, ?_⟩; gi_at_call 10; refine (callsIn_wide.2 (least_any _ key at_ HK2)).mono ?_; rintro r w1 ⟨rfl, b1⟩; have H1 := Lib.hid (cell0_below H0.out b1); have G1 := Lib.hid (G0.out.below b1); have B1 := Lib.hid (B0.out.trans (b1.mono B0.out.size)); clear b1)
    | (refine ⟨trivial, ?_⟩; gi_at_call 23; refine (callsIn_wide.2 (mfrom_nil (least key at_) HW.out HK.out m H1.out)).mono ?_; rintro r w2 ⟨bl, rfl, hbl, hcap, b2⟩; have H2 := Lib.hid (cell0_below H1.out b2); have G2 := Lib.hid (G1.out.below b2); have B2 := Lib.hid (B1.out.trans (b2.mono B1.out.size)); have C2 := Lib.hid (And.intro hcap hbl); clear b2 hcap hbl))
  have hsz3 := C2.out.1.lt
  have hSEQ := nseq (n - 1) (by omega) _ (.inl rfl) C2.out.1 H2.out [] (fun j hj => by cases hj) (by simp)
  refine range_u rfl h1 (gf := 46) (lb := #[.pointer (some ⟨bl + 2, 0, none⟩)]) rfl trivial (enters_of Tryd.func46 (by kernel_rfl) rfl) (w0 := w2) hSEQ (fp := []) (fun j hj => by cases hj) (fun A B ht => ht.elim) (fun h k => h.t k)
    (fun X lq o o' hl ho hc hw => keepsC_b X lq o o' hl ho hc) (Below.refl _ _) (fun _ => rfl)
    (fun pre X => pre = [] ∧ GW w.heap.size key noEn false X ∧ Below w2.heap.size w2 X)
    (fun _ _ _ => False)
    ?hI (fun _ _ _ _ _ h _ _ => h) (fun _ _ _ _ h => h.elim) ⟨rfl, G2.out, Below.refl _ _⟩
    (fun _ _ _ => True) (fun _ _ _ _ _ _ h _ _ => h)
    ?assign ?body ?done ?stop
  case hI =>
    rintro s' A B row ⟨h1, h2, h3⟩ hg hr
    have hb : Below w2.heap.size A B := (Below.refl _ A).grown hg h3.size (fun k e => (hr k e).1)
    exact ⟨h1, h2.grown hg (fun r e => (hr r e).2), h3.trans hb⟩
  case assign =>
    intro l' pre x X K hi hlen hK
    exact (no_prefix hlen).elim
  case body =>
    intro l' pre x a' X hi hlen ha
    exact (no_prefix hlen).elim
  case done =>
    rintro D X hD ⟨hL, hG, ho⟩ hK
    obtain ⟨y0, y1, y2, y3⟩ := box4 hG.re
    have r7 := cell_in hG.rb 0 (.bool false) rfl
    have f0 := Sk.free_in hG.re 0
    have f1 := Sk.free_in hG.re 1
    have f2 := Sk.free_in hG.re 2
    have f3 := Sk.free_in hG.re 3
    have f7 := Sk.free_in hG.rb 0
    have HX := Lib.hid (And.intro hG ho)
    clear hG ho
    gi_wp2
    obtain ⟨hG, ho⟩ := HX.out
    have hK5 := (gset_from (X := X) (B := w.heap.size) (N := w2.heap.size) (.string ⟨#[]⟩) (.int .u64 0) (.int .i64 0) (.string ⟨#[]⟩) (.bool false)).same D _ hD hK rfl
    have hb5 := gset_below (X := X) (.string ⟨#[]⟩) (.int .u64 0) (.int .i64 0) (.string ⟨#[]⟩) (.bool false) (Nat.le_succ w.heap.size)
    have hbs := B2.out.size
    have hbD := belowK_b (w := w) (Nat.le_refl _) _ D _ (.deferred none) (by omega) hK5 rfl rfl
    refine ⟨by simp, .inl ⟨_, _, rfl, run_takeDeferred hK5, ?_⟩⟩
    exact ⟨_, get_results ((gw_set hG noEn false).put hK5) _ rfl rfl, rfl, ((B2.out.trans (ho.mono hbs)).trans hb5).trans hbD⟩
  case stop =>
    rintro D c pre X hD hpre h hK
    exact h.elim
theorem get_nil {w : World} (key : ByteArray) (hk : key.size ≤ 1000000) (at_ : Nat) (ha : at_ < 18446744073709551616) (m : Int) (hm : w.cell? ⟨0, 0, none⟩ = some (.int .i64 m)) :
    Calls Tryd.prog 9 #[.pointer none, .string key, .int .u64 at_] w fun r w' => r = .returned (.tuple #[.agg (agE noEn), .bool false]) ∧ Below w.heap.size w w' := callsIn_wide.1 (get_nil_in 8 (by omega) key hk at_ ha m hm)
theorem From_nil {w : World} (key : ByteArray) (hk : key.size ≤ 1000000) (m : Int) (hm : w.cell? ⟨0, 0, none⟩ = some (.int .i64 m)) :
    Calls Tryd.prog 16 #[.pointer none, .string key] w (FromPost w 55 none (plc (least key 18446744073709551615))) := by
  have HM := Lib.hid hm
  have HW : Hid (least key 18446744073709551615).wf := ⟨by show 18446744073709551615 < 18446744073709551616; decide, by show (-9223372036854775808 : Int) ≤ 255; decide, by show (255 : Int) ≤ 9223372036854775807; decide⟩
  have HK : Hid ((least key 18446744073709551615).key.size ≤ 1000000) := hk
  have HK2 : Hid (key.size ≤ 281474976710656) := by rw [Hid]; omega
  clear hm
  go_enter Tryd.func16, Tryd.ntmps16
  go_wp2_with (first
    | (go_at_call 10; refine (least_any _ key 18446744073709551615 HK2).mono ?_; rintro r w1 ⟨rfl, b1⟩; have H1 := Lib.hid (cell0_below HM.out b1); have B1 := Lib.hid b1; clear b1)
    | (go_at_call 23; refine (mfrom_nil (least key 18446744073709551615) HW.out HK.out m H1.out).mono ?_; rintro r w2 ⟨bl, rfl, hbl, hcap, b2⟩; have B2 := Lib.hid (B1.out.trans (b2.mono B1.out.size)); have C2 := Lib.hid (And.intro hcap hbl); clear b2 hcap hbl))
  go_ret
  exact ⟨bl, rfl, Nat.le_trans B1.out.size C2.out.2, C2.out.1, B2.out⟩
theorem All_nil {w : World} (m : Int) (hm : w.cell? ⟨0, 0, none⟩ = some (.int .i64 m)) :
    Calls Tryd.prog 15 #[.pointer none] w (FromPost w 55 none (plc (least ⟨#[]⟩ 18446744073709551615))) := by
  go_enter Tryd.func15, Tryd.ntmps15
  go_wp2_with (first
    | (go_at_call 16; refine (From_nil ⟨#[]⟩ (by decide) m hm).mono ?_; rintro r w1 ⟨bl, rfl, h⟩; have H := Lib.hid h; clear h))
  go_ret
  exact ⟨bl, rfl, H.out⟩
theorem Down_nil {w : World} :
    Calls Tryd.prog 17 #[.pointer none, .string ⟨#[]⟩] w (FromPost w 48 none ⟨#[]⟩) := by
  have he : (⟨#[]⟩ : ByteArray).toList = [] := ByteArray.toList_mk []
  go_enter Tryd.func17, Tryd.ntmps17
  go_wp2_with (first
    | (go_at_call 29; refine (pairs_nil _).mono ?_; rintro r w1 ⟨rfl, rfl⟩)
    | (go_at_call 33; refine (Sk.down_nil _ ⟨#[]⟩).mono ?_; rintro r w3 ⟨rfl, rfl⟩)
    | (go_at_call 32; refine (entries_any _ _ _).mono ?_; rintro r w4 ⟨rfl, rfl⟩))
  go_ret
  exact ⟨w.heap.size, rfl, Nat.le_refl _, acap_three w _ _ ⟨#[]⟩, three_below _ _ _⟩
set_option maxRecDepth 100000 in
set_option maxHeartbeats 4000000 in
theorem row_nil_in (n : Nat) (hn : 5 ≤ n) {w : World} {gf : Nat} (hgf : gf = 55 ∨ gf = 48) {bl : Nat} {k : ByteArray} (hc : ACap w gf bl none k) (m : Int) (hm : w.cell? ⟨0, 0, none⟩ = some (.int .i64 m)) (x : Int) :
    CallsIn Fence.wide n Tryd.prog 14 #[.func (.func 46) #[] #[.pointer (some ⟨bl + 2, 0, none⟩)], .int .i64 x] w fun r w' => r = .returned (.slice none 0 0) ∧ Below w.heap.size w w' := by
  have h1 : 1 ≤ n := by omega
  have h0w : 0 < w.heap.size := cell_lt hm
  have HB0 : Below w.heap.size w ((w.alloc (.cells #[.int .i64 x] 3)).alloc (.cells #[.slice none 0 0] 22)) := ((Below.refl _ w).alloc (Nat.le_refl _) _).alloc (by simp) _
  have hr0 := heap_alloc_new (w.alloc (.cells #[.int .i64 x] 3)) (.cells #[.slice none 0 0] 22)
  rw [World.size_alloc] at hr0
  have hc0 := hc.below HB0
  have hm0 := (HB0.cell (p := ⟨0, 0, none⟩) h0w).trans hm
  have HR := Lib.hid hr0
  refine callsIn_of_wp_marks Tryd.func14 rfl trivial ?_ rfl
  simp only [Tryd.ntmps14, List.size_toArray, List.length_cons, List.length_nil, Nat.reduceAdd, Nat.reduceSub, Array.replicate_succ, Array.replicate_zero, List.push_toArray, List.append_toArray, List.nil_append, List.cons_append]
  clear hr0
  gi_wp2
  have hr0 := HR.out
  generalize (w.alloc (.cells #[.int .i64 x] 3)).alloc (.cells #[.slice none 0 0] 22) = W0 at *
  have hSEQ := nseq (n - 1) (by omega) gf hgf hc0 hm0 [] (fun j hj => by cases hj) (by simp)
  refine range_u rfl h1 (gf := 46) (lb := #[.pointer (some ⟨bl + 2, 0, none⟩)]) rfl trivial (enters_of Tryd.func46 (by kernel_rfl) rfl) (w0 := W0) hSEQ (fp := []) (fun j hj => by cases hj) (fun A B ht => ht.elim) (fun h k => h.t k)
    (fun X lq o o' hl ho hc hw => keepsC_b X lq o o' hl ho hc) (Below.refl _ _) (fun _ => rfl)
    (fun pre X => Below W0.heap.size W0 X)
    (fun _ _ _ => False)
    ?hI (fun _ _ _ _ _ h _ _ => h) (fun _ _ _ _ h => h.elim) (Below.refl _ _)
    (fun _ _ _ => True) (fun _ _ _ _ _ _ h _ _ => h)
    ?assign ?body ?done ?stop
  case hI =>
    rintro s' A B row h3 hg hr
    exact h3.trans ((Below.refl _ A).grown hg h3.size (fun k e => (hr k e).1))
  case assign =>
    intro l' pre x X K hi hlen hK
    exact (no_prefix hlen).elim
  case body =>
    intro l' pre x a' X hi hlen ha
    exact (no_prefix hlen).elim
  case done =>
    rintro D X hD ho hK
    have hc := cell_in ((ho.block _ (Array.getElem?_eq_some_iff.1 hr0).1).trans hr0) 0 (.slice none 0 0) rfl
    gi_wp2
    have hws := HB0.size
    have hbD := belowK_b (w := w) (Nat.le_refl _) X D _ (.deferred none) (by omega) hK rfl rfl
    refine ⟨by simp, .inl ⟨_, _, rfl, run_takeDeferred hK, ?_⟩⟩
    exact ⟨_, results_tmp rfl _ _ _, rfl, (HB0.trans (ho.mono hws)).trans hbD⟩
  case stop =>
    rintro D c pre X hD hpre h hK
    exact h.elim
theorem row_nil {w : World} {gf : Nat} (hgf : gf = 55 ∨ gf = 48) {bl : Nat} {k : ByteArray} (hc : ACap w gf bl none k) (m : Int) (hm : w.cell? ⟨0, 0, none⟩ = some (.int .i64 m)) (x : Int) :
    Calls Tryd.prog 14 #[.func (.func 46) #[] #[.pointer (some ⟨bl + 2, 0, none⟩)], .int .i64 x] w fun r w' => r = .returned (.slice none 0 0) ∧ Below w.heap.size w w' := callsIn_wide.1 (row_nil_in 8 (by omega) hgf hc m hm x)
end Go.Proofs.YtadejeoiffaimaaDoor.Me
