/-
  The newest entry of a key up to a number: the Go text of a memo's Get walked. Conditions: as each theorem states.
-/
import Derived.Test.YtadejeoiffaimaaDoorMeF
namespace Go.Proofs.YtadejeoiffaimaaDoor.Me
open Go.RowKit Go.Shelf
open Vi
open Go.Proofs.YtadejeoiffaimaaDoor.Rf
open Go.Proofs.YtadejeoiffaimaaDoor.Sk (feet Lst Moves Only encP SkAt pairs TnL KpL CapL)

attribute [local go_sem] Oper.semAt_some

def noEn : En := ⟨⟨#[]⟩, 0, 0, ⟨#[]⟩⟩
def least (key : ByteArray) (at_ : Nat) : En := ⟨key, at_, 255, ⟨#[]⟩⟩
def getE (E : List En) (key : ByteArray) (at_ : Nat) : Option En := ((upE E (least key at_)).head?).bind fun e => if e.key = key then some e else none
def agE (e : En) : Array Value := #[.string e.key, .int .u64 e.seq, .int .i64 e.kind, .string e.val]
def GetPost (w : World) (b l : Nat) (v : Value) (E : List En) (k : Nat) (m : Int) (o : Option En) (r : Ending) (w' : World) : Prop :=
  r = .returned (.tuple #[.agg (agE (o.getD noEn)), .bool o.isSome]) ∧ MemAt w' b l v E k m ∧ Only (feet l v) w w'
/-- Get's own memory -/
structure GW (B : Nat) (key : ByteArray) (e : En) (ok : Bool) (X : World) : Prop where
  ky : X.heap[B]? = some (.cells #[.string key] 9 (0, 0))
  re : X.heap[B + 1]? = some (.cells (agE e) 30 (0, 0))
  rb : X.heap[B + 1 + 1]? = some (.cells #[.bool ok] 4 (0, 0))
theorem GW.kept {B : Nat} {key : ByteArray} {e : En} {ok : Bool} {X Y : World} (h : GW B key e ok X) (hk : ∀ k o, B ≤ k → X.heap[k]? = some o → o.isCells = true → Y.heap[k]? = X.heap[k]?) : GW B key e ok Y :=
  ⟨(hk _ _ (by omega) h.ky rfl).trans h.ky, (hk _ _ (by omega) h.re rfl).trans h.re, (hk _ _ (by omega) h.rb rfl).trans h.rb⟩
theorem GW.below {B : Nat} {key : ByteArray} {e : En} {ok : Bool} {X Y : World} (h : GW B key e ok X) (hb : Below X.heap.size X Y) : GW B key e ok Y :=
  h.kept (fun k o _ ho _ => hb.block k (Array.getElem?_eq_some_iff.1 ho).1)
theorem gw_start (w : World) (key : ByteArray) : GW w.heap.size key noEn false (((w.alloc (.cells #[.string key] 9)).alloc (.cells (agE noEn) 30)).alloc (.cells #[.bool false] 4)) := by
  have h2 := heap_alloc_new (w.alloc (.cells #[.string key] 9)) (.cells (agE noEn) 30)
  have h3 := heap_alloc_new ((w.alloc (.cells #[.string key] 9)).alloc (.cells (agE noEn) 30)) (.cells #[.bool false] 4)
  rw [World.size_alloc] at h2
  rw [World.size_alloc, World.size_alloc] at h3
  exact ⟨old_alloc (old_alloc (heap_alloc_new w _) _) _, old_alloc h2 _, h3⟩
theorem cells_grown {A B : World} {row : Option Nat} {k : Nat} {o : Obj} (hg : A.grownBy B row) (hr : ∀ r, row = some r → ∃ o : Obj, A.heap[r]? = some o ∧ o.isCells = false) (ho : A.heap[k]? = some o) (hc : o.isCells = true) : B.heap[k]? = A.heap[k]? :=
  hg.block k (Array.getElem?_eq_some_iff.1 ho).1 (fun e => by
    obtain ⟨o', h1, h2⟩ := hr k e.symm
    rw [ho] at h1; injection h1 with h1; subst h1; rw [hc] at h2; cases h2)
theorem GW.grown {B : Nat} {key : ByteArray} {e : En} {ok : Bool} {X Y : World} {row : Option Nat} (h : GW B key e ok X) (hg : X.grownBy Y row) (hr : ∀ r, row = some r → ∃ o : Obj, X.heap[r]? = some o ∧ o.isCells = false) : GW B key e ok Y :=
  h.kept fun _ _ _ ho hc => cells_grown hg hr ho hc
theorem GW.only {B : Nat} {key : ByteArray} {e : En} {ok : Bool} {X Y : World} {fp : List Nat} (h : GW B key e ok X) (hg : Only fp X Y) (hf : ∀ k ∈ fp, k < B) : GW B key e ok Y :=
  h.kept fun k _ hB ho _ => hg.block k (Array.getElem?_eq_some_iff.1 ho).1 (fun e => by have := hf k e; omega)
def gset (X : World) (B : Nat) (a b c d e : Value) : World := ((((X.setCell ⟨B + 1, 0, none⟩ a).setCell ⟨B + 1, 1, none⟩ b).setCell ⟨B + 1, 2, none⟩ c).setCell ⟨B + 1, 3, none⟩ d).setCell ⟨B + 1 + 1, 0, none⟩ e
theorem gset_below {X : World} {B N : Nat} (a b c d e : Value) (h : N ≤ B + 1) : Below N X (gset X B a b c d e) :=
  (((((Below.refl _ X).setCell (p := ⟨B + 1, 0, none⟩) h a).setCell (p := ⟨B + 1, 1, none⟩) h b).setCell (p := ⟨B + 1, 2, none⟩) h c).setCell (p := ⟨B + 1, 3, none⟩) h d).setCell (p := ⟨B + 1 + 1, 0, none⟩) (by show N ≤ B + 1 + 1; omega) e
theorem gset_from {X : World} {B N : Nat} (a b c d e : Value) : KeepsFrom N X (gset X B a b c d e) :=
  (((((KeepsOthers.setCell _ _ _).trans (KeepsOthers.setCell _ _ _)).trans (KeepsOthers.setCell _ _ _)).trans (KeepsOthers.setCell _ _ _)).trans (KeepsOthers.setCell _ _ _)).from N
theorem gw_set {X : World} {B : Nat} {key : ByteArray} {e0 : En} {ok0 : Bool} (h : GW B key e0 ok0 X) (x : En) (ok : Bool) : GW B key x ok (gset X B (.string x.key) (.int .u64 x.seq) (.int .i64 x.kind) (.string x.val) (.bool ok)) := by
  refine ⟨?_, ?_, ?_⟩
  · exact ((gset_below (N := B + 1) _ _ _ _ _ (Nat.le_refl _)).block B (by omega)).trans h.ky
  · exact (Below.heap_setCell _ ⟨B + 1 + 1, 0, none⟩ _ (B + 1) (by simp)).trans (Sk.heap_set (Sk.heap_set (Sk.heap_set (Sk.heap_set h.re 0 _) 1 _) 2 _) 3 _)
  · have h4 : ((((X.setCell ⟨B + 1, 0, none⟩ (.string x.key)).setCell ⟨B + 1, 1, none⟩ (.int .u64 x.seq)).setCell ⟨B + 1, 2, none⟩ (.int .i64 x.kind)).setCell ⟨B + 1, 3, none⟩ (.string x.val)).heap[B + 1 + 1]? = some (.cells #[.bool ok0] 4 (0, 0)) :=
      (Below.heap_setCell _ ⟨B + 1, 3, none⟩ _ (B + 1 + 1) (by simp)).trans ((Below.heap_setCell _ ⟨B + 1, 2, none⟩ _ (B + 1 + 1) (by simp)).trans ((Below.heap_setCell _ ⟨B + 1, 1, none⟩ _ (B + 1 + 1) (by simp)).trans ((Below.heap_setCell _ ⟨B + 1, 0, none⟩ _ (B + 1 + 1) (by simp)).trans h.rb)))
    exact Sk.heap_set h4 0 _
theorem mem_of {w X : World} {b l k : Nat} {v : Value} {E : List En} {m : Int} {s : Sk.Ls} {bytes st : Int} (h : MemAt w b l v E k m) (ho : Only (feet l v) w X) (hsk : SkAt X l v s bytes st) (hp : pairs s = E.map pr) (hk : s.n = k) : MemAt X b l v E k m := by
  refine ⟨(ho.block b h.blt h.off).trans h.box, ⟨s, bytes, st, hsk, hp, hk⟩, h.good, h.off, ?_, h.pos, h.low, h.ov⟩
  have := ho.block 0 (cell_lt h.glo) (fun hm => by have := h.low 0 hm; omega)
  rw [← h.glo]; unfold World.cell?
  simp only [this]
theorem get_results {X : World} {B : Nat} {key : ByteArray} {e : En} {ok : Bool} (h : GW B key e ok X) (tmps : Array Value) (h6 : tmps.getD 6 undef = .pointer (some ⟨B + 1, 0, none⟩)) (h7 : tmps.getD 7 undef = .pointer (some ⟨B + 1 + 1, 0, none⟩)) :
    (results Tryd.f9 tmps).run Tryd.prog X = .ok (.tuple #[.agg (agE e), .bool ok]) X := by
  have h6' : tmps[6]?.getD undef = .pointer (some ⟨B + 1, 0, none⟩) := by simpa using h6
  have h7' : tmps[7]?.getD undef = .pointer (some ⟨B + 1 + 1, 0, none⟩) := by simpa using h7
  have c7 := cell_in h.rb 0 (.bool ok) rfl
  obtain ⟨y0, y1, y2, y3⟩ := box4 h.re
  simp [results, Tryd.results9, go_sem, h6', h7', asAddr, c7, y0, y1, y2, y3, agE]
theorem GW.put {X : World} {B D : Nat} {key : ByteArray} {e : En} {ok : Bool} (h : GW B key e ok X) (hK : X.heap[D]? = some (.deferred (some []))) : GW B key e ok (X.putObj D (.deferred none)) :=
  h.kept fun k o _ ho hc => World.putObj_heap_other (fun e => by subst e; rw [hK] at ho; cases ho; cases hc)
theorem get_post {w X : World} {b l k : Nat} {v : Value} {E : List En} {m : Int} {s : Sk.Ls} {bytes st : Int} (HM : MemAt w b l v E k m) {D : Nat} {x : En} {ok : Bool} (ho : Only (feet l v) w X) (hsk : SkAt X l v s bytes st) (hp : pairs s = E.map pr) (hkn : s.n = k)
    (hD : w.heap.size ≤ D) (hK : X.heap[D]? = some (.deferred (some []))) {o : Option En} (h1 : o.getD noEn = x) (h2 : o.isSome = ok) : GetPost w b l v E k m o (.returned (.tuple #[.agg (agE x), .bool ok])) (X.putObj D (.deferred none)) := by
  have hb : Below w.heap.size X (X.putObj D (.deferred none)) := belowK_b (w := w) (Nat.le_refl _) X D _ _ hD hK rfl rfl
  have hsk2 : SkAt (X.putObj D (.deferred none)) l v s bytes st := hsk.kept (fun j hj => hb.block j (HM.lst.lt j hj))
  have ho2 := ho.onTo (Nat.le_refl _) hb
  exact ⟨by rw [h1, h2], mem_of HM ho2 hsk2 hp hkn, ho2⟩
set_option maxRecDepth 100000 in
set_option maxHeartbeats 4000000 in
theorem get_in (n : Nat) (hn : 5 ≤ n) {w : World} {b l k : Nat} {v : Value} {E : List En} {m : Int} (h : MemAt w b l v E k m) (key : ByteArray) (hk : key.size ≤ 1000000) (at_ : Nat) (ha : at_ < 18446744073709551616) :
    CallsIn Fence.wide n Tryd.prog 9 #[.pointer (some ⟨b, 0, none⟩), .string key, .int .u64 at_] w (GetPost w b l v E k m (getE E key at_)) := by
  have hb0 : Below w.heap.size w (((w.alloc (.cells #[.string key] 9)).alloc (.cells (agE noEn) 30)).alloc (.cells #[.bool false] 4)) := three_below _ _ _
  have H0 := Lib.hid (h.below hb0)
  have G0 := Lib.hid (gw_start w key)
  have B0 := Lib.hid hb0
  have HW : Hid (least key at_).wf := ⟨ha, by show (-9223372036854775808 : Int) ≤ 255; decide, by show (255 : Int) ≤ 9223372036854775807; decide⟩
  have HK : Hid ((least key at_).key.size ≤ 1000000) := hk
  have HK2 : Hid (key.size ≤ 281474976710656) := by rw [Hid]; omega
  have hck := cell_in G0.out.ky 0 _ rfl
  have h1 : 1 ≤ n := by omega
  have HM := Lib.hid h
  clear h hb0
  refine callsIn_of_wp_marks Tryd.func9 rfl trivial ?_ rfl
  simp only [Tryd.ntmps9, List.size_toArray, List.length_cons, List.length_nil, Nat.reduceAdd, Nat.reduceSub, Array.replicate_succ, Array.replicate_zero, List.push_toArray, List.append_toArray, List.nil_append, List.cons_append]
  gi_wp2_with (first
    | (refine ⟨trivial, ?_⟩; gi_at_call 10; refine (callsIn_wide.2 (least_any _ key at_ HK2)).mono ?_; rintro r w1 ⟨rfl, b1⟩; have H1 := Lib.hid (H0.out.below b1); have G1 := Lib.hid (G0.out.below b1); have B1 := Lib.hid (B0.out.trans (b1.mono B0.out.size)); clear b1)
    | (refine ⟨trivial, ?_⟩; gi_at_call 23; refine (callsIn_wide.2 (mfrom_any H1.out (least key at_) HW.out HK.out)).mono ?_; rintro r w2 ⟨bl, rfl, hbl, hcap, b2⟩; have H2 := Lib.hid (H1.out.below b2); have G2 := Lib.hid (G1.out.below b2); have B2 := Lib.hid (B1.out.trans (b2.mono B1.out.size)); have C2 := Lib.hid (And.intro hcap hbl); clear b2 hcap hbl))
  have hsz1 : w.heap.size + 1 + 1 < w1.heap.size := (Array.getElem?_eq_some_iff.1 G1.out.rb).1
  have hsz2 : w1.heap.size ≤ bl := C2.out.2
  have hsz3 := C2.out.1.lt
  have hfl := HM.out.lst.lt
  obtain ⟨s, bytes, st, hs, hp, hkn, hseq⟩ := mseq (n - 1) (by omega) H2.out C2.out.1 HW.out (fun j hj => by have := hfl j hj; omega)
  have hSEQ := hseq [w.heap.size + 1, w.heap.size + 1 + 1] (fun j hj => by simp at hj; omega) (fun j hj => ⟨by simp at hj; omega, fun hm => by have := hfl j hm; simp at hj; omega, by simp at hj; omega⟩)
  clear hseq
  have HF := Lib.hid hfl
  refine range_u rfl h1 (gf := 46) (lb := #[.pointer (some ⟨bl + 2, 0, none⟩)]) rfl trivial (enters_of Tryd.func46 (by kernel_rfl) rfl) (w0 := w2) hSEQ (fp := feet l v) (fun j hj => by have := hfl j hj; omega) (fun A B ht => ht.1) (fun h k => h.t k)
    (fun X lq o o' hl ho hc hw => keepsC_b X lq o o' hl ho hc) (Below.refl _ _) (fun _ => rfl)
    (fun pre X => pre = [] ∧ GW w.heap.size key noEn false X ∧ Only (feet l v) w2 X ∧ ∃ st, SkAt X l v s bytes st)
    (fun c pre X => ∃ e, pre = [e] ∧ Only (feet l v) w X ∧ (∃ st, SkAt X l v s bytes st) ∧ ((c = .exit 0 ∧ e.key ≠ key ∧ GW w.heap.size key noEn false X) ∨ (c = .ret ∧ e.key = key ∧ GW w.heap.size key e true X)))
    ?hI ?hIx ?hIT ⟨rfl, G2.out, Only.refl _ _, st, hs⟩
    (fun x a' X => ∃ g, w2.heap.size ≤ g ∧ X.heap[g]? = some (.cells (agE x) 30 (0, 0)) ∧ a' = { tmps := #[.pointer (some ⟨b, 0, none⟩), .string key, .int .u64 at_, undef, .pointer (some ⟨w.heap.size, 0, none⟩), undef, .pointer (some ⟨w.heap.size + 1, 0, none⟩), .pointer (some ⟨w.heap.size + 1 + 1, 0, none⟩), .pointer (some ⟨g, 0, none⟩), .pointer (some ⟨b, 0, none⟩), .string key, .int .u64 at_, .agg #[.string key, .int .u64 at_, .int .i64 255, .string ⟨#[]⟩], .func (.func 46) #[] #[.pointer (some ⟨bl + 2, 0, none⟩)], .agg (agE x), undef, undef, undef, undef, undef, undef], defers := [] })
    ?hAx ?assign ?body ?done ?stop
  case hI =>
    rintro s' A B row ⟨h1, h2, h3, st', h4⟩ hg hr
    have hb : Below w2.heap.size A B := (Below.refl _ A).grown hg h3.size (fun k e => (hr k e).1)
    exact ⟨h1, h2.grown hg (fun r e => (hr r e).2), h3.onTo (Nat.le_refl _) hb, st', h4.kept (fun j hj => hb.block j (by have := hfl j hj; omega))⟩
  case hIx =>
    rintro c s' A B row ⟨e, h1, h3, ⟨st', h4⟩, h5⟩ hg hr
    have hb : Below w.heap.size A B := (Below.refl _ A).grown hg h3.size (fun k e => by have := (hr k e).1; omega)
    refine ⟨e, h1, h3.onTo (Nat.le_refl _) hb, ⟨st', h4.kept (fun j hj => hb.block j (hfl j hj))⟩, ?_⟩
    rcases h5 with ⟨c1, c2, c3⟩ | ⟨c1, c2, c3⟩
    · exact .inl ⟨c1, c2, c3.grown hg (fun r e => (hr r e).2)⟩
    · exact .inr ⟨c1, c2, c3.grown hg (fun r e => (hr r e).2)⟩
  case hIT =>
    rintro pre A B ⟨h1, h2, h3, st', h4⟩ ht
    exact ⟨h1, h2.only ht.1 hfl, h3.trans ht.1, ht.2 st' h4⟩
  case hAx =>
    rintro x a' s' A B row ⟨g, h1, h2, h3⟩ hg hr
    exact ⟨g, h1, (cells_grown hg (fun r e => (hr r e).2) h2 rfl).trans h2, h3⟩
  case assign =>
    rintro l' pre x X K ⟨h1, h2, h3, st', h4⟩ hlen hK
    dsimp only [encE]
    gi_wp2
    have hb : Below X.heap.size X (X.alloc (.cells #[.string x.key, .int .u64 x.seq, .int .i64 x.kind, .string x.val] 30)) := (Below.refl _ X).alloc (Nat.le_refl _) _
    have hws := h3.size
    exact hK _ _ ⟨h1, h2.below hb, h3.onTo hws hb, st', h4.below hb⟩ (KeepsFrom.of_grownBy (Sk.grown_below hb none) (fun j e => by cases e)) (KeepsC.of_below hb hws) ⟨X.heap.size, hws, heap_alloc_new X _, rfl⟩
  case body =>
    rintro l' pre x a' X ⟨rfl, hG, ho, st', hsk⟩ hlen ⟨g, hg, hX, rfl⟩
    obtain ⟨z0, z1, z2, z3⟩ := box4 hX
    obtain ⟨y0, y1, y2, y3⟩ := box4 hG.re
    have c0 := cell_in hG.ky 0 (.string key) rfl
    have r7 := cell_in hG.rb 0 (.bool false) rfl
    have f0 := Sk.free_in hG.re 0
    have f1 := Sk.free_in hG.re 1
    have f2 := Sk.free_in hG.re 2
    have f3 := Sk.free_in hG.re 3
    have f7 := Sk.free_in hG.rb 0
    have hinf := ent_info
    have HX := Lib.hid (And.intro hG (And.intro ho (And.intro hsk hX)))
    have hOw := Lib.hid ((Only.of_below B2.out).trans ho)
    clear hG ho hsk hX
    dsimp only [agE]
    by_cases hek : x.key = key
    · have hek2 : (x.key.toList == key.toList) = true := by rw [hek]; simp
      have hek3 : x.key.toList = key.toList := by rw [hek]
      gi_wp2
      obtain ⟨hG, ho, hsk, hX⟩ := HX.out
      have hb5 := gset_below (X := X) (.string x.key) (.int .u64 x.seq) (.int .i64 x.kind) (.string x.val) (.bool true) (Nat.le_succ w.heap.size)
      have hgw := gw_set hG x true
      have hkf := gset_from (X := X) (B := w.heap.size) (N := w2.heap.size) (.string x.key) (.int .u64 x.seq) (.int .i64 x.kind) (.string x.val) (.bool true)
      rw [hek] at hb5 hkf hgw
      exact ⟨hkf, x, rfl, hOw.out.onTo (Nat.le_refl _) hb5, ⟨st', hsk.kept (fun j hj => hb5.block j (hfl j hj))⟩, .inr ⟨rfl, hek, hgw⟩⟩
    · have hek3 : ¬ x.key.toList = key.toList := fun e => hek (data_inj (by
        have e1 : ∀ z : ByteArray, z.toList = z.data.toList := fun z => ByteArray.toList_mk z.data.toList
        rw [← e1, ← e1]; exact e))
      have hek2 : (x.key.toList == key.toList) = false := by simpa using hek3
      gi_wp2
      exact ⟨KeepsFrom.refl _ _, x, rfl, hOw.out, ⟨st', HX.out.2.2.1⟩, .inl ⟨rfl, hek, HX.out.1⟩⟩
  case done =>
    rintro D X hD ⟨hL, hG, ho, st', hsk⟩ hK
    obtain ⟨y0, y1, y2, y3⟩ := box4 hG.re
    have r7 := cell_in hG.rb 0 (.bool false) rfl
    have f0 := Sk.free_in hG.re 0
    have f1 := Sk.free_in hG.re 1
    have f2 := Sk.free_in hG.re 2
    have f3 := Sk.free_in hG.re 3
    have f7 := Sk.free_in hG.rb 0
    have hgt : getE E key at_ = none := by unfold getE; rw [hL]; rfl
    rw [hgt]
    have HX := Lib.hid (And.intro hG (And.intro ho hsk))
    clear hG ho hsk
    gi_wp2
    obtain ⟨hG, ho, hsk⟩ := HX.out
    have hK5 := (gset_from (X := X) (B := w.heap.size) (N := w2.heap.size) (.string ⟨#[]⟩) (.int .u64 0) (.int .i64 0) (.string ⟨#[]⟩) (.bool false)).same D _ hD hK rfl
    have hb5 := gset_below (X := X) (.string ⟨#[]⟩) (.int .u64 0) (.int .i64 0) (.string ⟨#[]⟩) (.bool false) (Nat.le_succ w.heap.size)
    refine ⟨by simp, .inl ⟨_, _, rfl, run_takeDeferred hK5, ?_⟩⟩
    exact ⟨_, get_results ((gw_set hG noEn false).put hK5) _ rfl rfl, get_post HM.out (((Only.of_below B2.out).trans ho).onTo (Nat.le_refl _) hb5) (hsk.kept (fun j hj => hb5.block j (HF.out j hj))) hp hkn (by have := B2.out.size; omega) hK5 (by rw [hgt]; rfl) (by rw [hgt]; rfl)⟩
  case stop =>
    rintro D c pre X hD hpre ⟨e, rfl, ho, ⟨st', hsk⟩, hc⟩ hK
    have hhd : (upE E (least key at_)).head? = some e := by
      obtain ⟨t, ht⟩ := hpre
      rw [← ht]; rfl
    rcases hc with ⟨rfl, hek, hG⟩ | ⟨rfl, hek, hG⟩
    · obtain ⟨y0, y1, y2, y3⟩ := box4 hG.re
      have r7 := cell_in hG.rb 0 (.bool false) rfl
      have f0 := Sk.free_in hG.re 0
      have f1 := Sk.free_in hG.re 1
      have f2 := Sk.free_in hG.re 2
      have f3 := Sk.free_in hG.re 3
      have f7 := Sk.free_in hG.rb 0
      have hgt : getE E key at_ = none := by unfold getE; rw [hhd]; simp [hek]
      rw [hgt]
      have HX := Lib.hid (And.intro hG (And.intro ho hsk))
      clear hG ho hsk
      gi_wp2
      obtain ⟨hG, ho, hsk⟩ := HX.out
      have hK5 := (gset_from (X := X) (B := w.heap.size) (N := w2.heap.size) (.string ⟨#[]⟩) (.int .u64 0) (.int .i64 0) (.string ⟨#[]⟩) (.bool false)).same D _ hD hK rfl
      have hb5 := gset_below (X := X) (.string ⟨#[]⟩) (.int .u64 0) (.int .i64 0) (.string ⟨#[]⟩) (.bool false) (Nat.le_succ w.heap.size)
      refine ⟨by simp, .inl ⟨_, _, rfl, run_takeDeferred hK5, ?_⟩⟩
      exact ⟨_, get_results ((gw_set hG noEn false).put hK5) _ rfl rfl, get_post HM.out (ho.onTo (Nat.le_refl _) hb5) (hsk.kept (fun j hj => hb5.block j (HF.out j hj))) hp hkn (by have := B2.out.size; omega) hK5 (by rw [hgt]; rfl) (by rw [hgt]; rfl)⟩
    · have hgt : getE E key at_ = some e := by unfold getE; rw [hhd]; simp [hek]
      rw [hgt]
      gi_wp2
      refine ⟨by simp, .inl ⟨_, _, rfl, run_takeDeferred hK, ?_⟩⟩
      exact ⟨_, get_results (hG.put hK) _ rfl rfl, get_post HM.out ho hsk hp hkn (by have := B2.out.size; omega) hK rfl rfl⟩
theorem get_any {w : World} {b l k : Nat} {v : Value} {E : List En} {m : Int} (h : MemAt w b l v E k m) (key : ByteArray) (hk : key.size ≤ 1000000) (at_ : Nat) (ha : at_ < 18446744073709551616) :
    Calls Tryd.prog 9 #[.pointer (some ⟨b, 0, none⟩), .string key, .int .u64 at_] w (GetPost w b l v E k m (getE E key at_)) := callsIn_wide.1 (get_in 8 (by omega) h key hk at_ ha)
end Go.Proofs.YtadejeoiffaimaaDoor.Me
