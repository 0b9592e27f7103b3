/-
  What an iterator of batches gives, collected: slices.AppendSeq, slices.Collect. Conditions: as each theorem states.
-/
import Derived.Test.YtdkgieaanpfhcaaGreatDoorWaB
namespace Go.Proofs.YtdkgieaanpfhcaaGreatDoor.Wa
open Go.RowKit Go.Shelf
open Go.Proofs.YtdkgieaanpfhcaaGreatDoor
open Vi Ba
open Go.Proofs.YtdkgieaanpfhcaaGreatDoor.Rf

attribute [local go_sem] Oper.semAt_some
theorem infoB : (Tryz.prog.info? 32).map (fun i => (i.zero, i.size, i.bytes)) = some (some (.agg #[.int .u64 0, .slice none 0 0]), 2, 32) := by kernel_rfl
theorem grown_two (W : World) (x0 x1 : Value) (t : TypeId) : ∀ j y, [x0, x1][j]? = some y → (W.alloc (.cells #[x0, x1] t)).cell? ((⟨W.heap.size, 0, none⟩ : Addr).add j) = some y :=
  World.news_of_block (heap_alloc_new W (.cells #[x0, x1] t))
theorem own_slice {w : World} {base e size n : Nat} {v : Value} {xs : List Value} (h : w.ownsRow base e size v n xs) : ∃ A c, v = .slice A n c := by
  rcases h.2 with ⟨rfl, h0⟩ | ⟨g, cap, cur, rfl, _⟩
  · exact ⟨none, 0, by rw [h0]⟩
  · exact ⟨_, _, rfl⟩
/-- a row of batches that grows, in a box -/
def CoI (base bx : Nat) (w : World) (pre : List Bat) (X : World) : Prop :=
  ∃ (v : Value) (xs : List BX), xs.map Prod.fst = pre ∧ X.heap[bx]? = some (.cells #[v] 25 (0, 0)) ∧ BIn base 32 X v xs ∧ Below base w X
theorem CoI.kt {base bx : Nat} {w : World} {pre : List Bat} {A B : World} (h : CoI base bx w pre A) (k : KT [25, 32, 63] A B) (hb : Below base w B) : CoI base bx w pre B := by
  obtain ⟨v, xs, h1, h2, h3, _⟩ := h
  exact ⟨v, xs, h1, k.box (by decide) h2, h3.kept k (by decide) (by decide), hb⟩
theorem below_grown_row {base : Nat} {w A B : World} {row : Option Nat} (h : Below base w A) (hg : A.grownBy B row) (hr : ∀ r, row = some r → base ≤ r) (hB : base ≤ A.heap.size) : Below base w B :=
  h.trans ⟨hg.os, hg.tape, hg.output, hg.size, fun k hk => hg.block k (Nat.lt_of_lt_of_le hk hB) (fun e => by have := hr k e.symm; omega)⟩
theorem CoI.size {base bx : Nat} {w : World} {pre : List Bat} {A : World} (h : CoI base bx w pre A) (hbx : base ≤ bx) : base ≤ A.heap.size := by
  obtain ⟨_, _, _, h2, _⟩ := h
  have := hp_lt h2
  omega
theorem CoI.from {base bx : Nat} {w : World} (hbx : base ≤ bx) : ∀ {B0 : Nat}, base ≤ B0 → OwnFrom B0 (CoI base bx w) := fun {B0} hB s A B row h hg hr => by
  have hz := h.size hbx
  refine h.kt (KT.grown hg (fun r e => (hr r e).2)) ?_
  obtain ⟨_, _, _, _, _, h4⟩ := h
  exact below_grown_row h4 hg (fun r e => by have := (hr r e).1; omega) hz
theorem CoI.below {base bx : Nat} {w : World} {pre : List Bat} {A B : World} (h : CoI base bx w pre A) (hb : Below A.heap.size A B) (hB : base ≤ A.heap.size) : CoI base bx w pre B := by
  refine h.kt (KT.below hb) ?_
  obtain ⟨_, _, _, _, _, h4⟩ := h
  exact h4.trans (hb.mono hB)
/-- a batch that came, in a box of its own -/
def BoxB (kb : Nat) (x : Bat) (A : Option Addr) (c : Nat) (W : World) : Prop := W.heap[kb]? = some (.cells #[.int .u64 x.seq, .slice A x.l.length c] 32 (0, 0)) ∧ BX.lies W (x, A, c)
theorem BoxB.kt {kb : Nat} {x : Bat} {A : Option Addr} {c : Nat} {W W' : World} (h : BoxB kb x A c W) (k : KT [32, 63] W W') : BoxB kb x A c W' := ⟨k.box (by decide) h.1, k.row (by decide) h.2⟩
theorem BoxB.cells {kb : Nat} {x : Bat} {A : Option Addr} {c : Nat} {W : World} (h : BoxB kb x A c W) : W.cell? ⟨kb, 0, none⟩ = some (.int .u64 x.seq) ∧ W.cell? ⟨kb, 1, none⟩ = some (.slice A x.l.length c) := ⟨cell_in h.1 0 _ rfl, cell_in h.1 1 _ rfl⟩
theorem box_new {x : Bat} {A : Option Addr} {c : Nat} {W : World} (h : BX.lies W (x, A, c)) : BoxB W.heap.size x A c (W.alloc (.cells #[.int .u64 x.seq, .slice A x.l.length c] 32)) :=
  ⟨heap_alloc_new W _, (KT.below (ts := [63]) ((Below.refl _ W).alloc (Nat.le_refl _) _)).row (by decide) h⟩
/-- the row that was appended to is put into its box -/
theorem CoI.put {base bx : Nat} {w : World} {pre : List Bat} {A B : World} {v v2 : Value} {xs : List BX} {x : BX} (h1 : xs.map Prod.fst = pre) (h2 : A.heap[bx]? = some (.cells #[v] 25 (0, 0))) (h3 : BIn base 32 A v xs) (h4 : Below base w A) (hx : x.lies A)
    (hg : A.grownBy B v.ownBlock) (ho : B.ownsRow base 32 2 v2 (xs.length + 1) (bCells xs ++ x.cells)) (hbx : base ≤ bx) : CoI base bx w (pre ++ [x.1]) (B.setCell ⟨bx, 0, none⟩ v2) := by
  have k1 : KT [25, 63] A B := KT.own h3.own hg (by decide)
  have hb2 := k1.box (by decide) h2
  have k2 : KT [32, 63] B (B.setCell ⟨bx, 0, none⟩ v2) := KT.set hb2 (by decide) v2
  refine ⟨v2, xs ++ [x], by simp [h1], heap_set hb2 0 v2, ⟨?_, fun y hy => ?_⟩, (below_grown_row h4 hg (fun r e => (h3.own.lt r e).1) (by have := hp_lt h2; omega)).setCell (p := ⟨bx, 0, none⟩) hbx _⟩
  · rw [bCells_snoc, List.length_append]
    exact k2.row (by decide) ho
  · refine k2.row (by decide) (k1.row (by decide) ?_)
    rcases List.mem_append.1 hy with hy | hy
    · exact h3.lies y hy
    · rw [List.mem_singleton.1 hy]; exact hx
set_option maxRecDepth 100000 in
set_option maxHeartbeats 4000000 in
theorem append_seq (n : Nat) (hn : 6 ≤ n) {gf : Nat} {lb : Array Value} {L : List Bat} (hlen : L.length ≤ 1000000) (w : World) (eg : ∀ args w, (callFunc gf args).run Tryz.prog w = .ok (.enter gf args) w)
    (hseq : SeqM Fence.wide (n - 1) Tryz.prog gf lb EncB (TnU w.heap.size) (KT KS) L w) :
    CallsIn Fence.wide n Tryz.prog 87 #[.slice none 0 0, .func (.func gf) #[] lb] w fun e W' => ∃ v xs, e = .returned v ∧ xs.map Prod.fst = L ∧ BIn w.heap.size 32 W' v xs ∧ Below w.heap.size w W' := by
  have h1 : 1 ≤ n := by omega
  obtain ⟨i0, hi, hz0, hz1, hz2⟩ := info_parts infoB
  have HI := Lib.hid (And.intro hi (And.intro hz0 (And.intro hz1 hz2)))
  clear hi hz0 hz1 hz2
  refine callsIn_of_wp_marks Tryz.func87 rfl trivial ?_ rfl
  simp only [Tryz.ntmps87, List.size_toArray, List.length_cons, List.length_nil, Nat.reduceAdd, Nat.reduceSub, Array.replicate_succ, Array.replicate_zero, List.push_toArray, List.append_toArray, List.nil_append, List.cons_append]
  gi_wp2
  have hz0 : (w.alloc (.cells #[.slice none 0 0] 25)).heap.size = w.heap.size + 1 := by simp
  have hc0 : CoI w.heap.size w.heap.size w [] (w.alloc (.cells #[.slice none 0 0] 25)) := ⟨_, [], rfl, heap_alloc_new w _, BIn.nil _ _ _, (Below.refl _ _).alloc (Nat.le_refl _) _⟩
  have hb0 : Below w.heap.size w (w.alloc (.cells #[.slice none 0 0] 25)) := (Below.refl _ _).alloc (Nat.le_refl _) _
  generalize hW0 : w.alloc (.cells #[.slice none 0 0] 25) = W0 at *
  clear hW0
  refine range_mu rfl h1 (gf := gf) (lb := lb) rfl trivial eg
    (w0 := w) (Enc := EncB) (L := L) (Tn := TnU w.heap.size) (Kp := KT KS) hseq (fun _ _ h => h.walk) KT.t (fun W l o o' _ h2 h3 _ => KT.put h2 h3) hb0 (fun x args W h => encB_size x args W h)
    (CoI w.heap.size w.heap.size w) (fun _ _ _ => False) (CoI.from (Nat.le_refl _) (by omega)) (fun _ _ _ _ _ h _ _ => h)
    (fun pre A B h ht => h.kt (ht.kt (by decide)) (by obtain ⟨_, _, _, _, _, h4⟩ := h; exact ht.below h4 (Nat.le_refl _))) hc0
    (fun x a' W => ∃ kb A c, a' = { tmps := #[.slice none 0 0, .func (.func gf) #[] lb, .pointer (some ⟨w.heap.size, 0, none⟩), undef, .slice none 0 0, .pointer (some ⟨kb, 0, none⟩), .func (.func gf) #[] lb, .agg #[.int .u64 x.seq, .slice A x.l.length c], undef, undef, undef, undef, undef], defers := [] } ∧ BoxB kb x A c W)
    ?hAx ?assign ?body ?done ?stop
  case hAx =>
    rintro x a' s A B row ⟨kb, a, c, e, hb⟩ hg hr
    exact ⟨kb, a, c, e, hb.kt (KT.grown hg (fun r e => (hr r e).2))⟩
  case assign =>
    rintro l' pre x args W K hI hp ⟨A, c, rfl, hl⟩ hK
    gi_wp2
    have hbl : Below W.heap.size W (W.alloc (.cells #[.int .u64 x.seq, .slice A x.l.length c] 32)) := (Below.refl _ W).alloc (Nat.le_refl _) _
    exact hK _ _ (hI.below hbl (hI.size (Nat.le_refl _))) (kf_below hbl) (KT.below hbl) ⟨W.heap.size, A, c, rfl, box_new hl⟩
  case body =>
    rintro l' pre x a' W ⟨v, xs, e1, e2, e3, e4⟩ hp ⟨kb, A, c, rfl, hb⟩
    obtain ⟨A1, c1, rfl⟩ := e3.slice
    obtain ⟨cb0, cb1⟩ := hb.cells
    have cv := cell_in e2 0 _ rfl
    have hxl : xs.length + 1 ≤ 1000000 := by
      have h1 := hp.length_le
      rw [List.length_append, ← e1, List.length_map] at h1
      simp at h1
      omega
    have hbl : Below W.heap.size W (W.alloc (.cells #[.int .u64 x.seq, .slice A x.l.length c] 32)) := (Below.refl _ W).alloc (Nat.le_refl _) _
    have HE := Lib.hid (And.intro e1 (And.intro (KT.box (ts := [25]) (KT.below hbl) (by decide) e2) (And.intro (e3.kept (ts := [32, 63]) (KT.below hbl) (by decide) (by decide)) (And.intro (e4.trans (hbl.mono (by have := hp_lt e2; omega))) (hb.kt (KT.below hbl))))))
    have hzW := hp_lt e2
    clear e1 e2 e3 e4 hb hp
    gi_wp2_with (first
      | (gi_at_builtin
         refine wpListIn_append_own _ rfl (.tmp 8) (.tmp 10) 25 rfl w.heap.size 32 i0 _ 2 32 Tryz.underlying25 HI.out.1 HI.out.2.1 HI.out.2.2.1 HI.out.2.2.2 rfl (by decide) (.slice A1 xs.length c1) xs.length (bCells xs) rfl HE.out.2.2.1.own ⟨W.heap.size, 0, none⟩ 1 1 (BX.cells (x, A, c)) rfl rfl (grown_two W _ _ _) (by simp [BX.cells, Value.oneCell']) (by unfold maxLen; omega) (by omega) (by simp; omega) ?_
         intro v7 w7 hown hgr _
         have h8 := (KT.own (ts := [25]) HE.out.2.2.1.own hgr (by decide)).box (by decide) HE.out.2.1
         have c8 := cell_in h8 0 _ rfl
         have f8 := free_in h8 0
         have C7 := Lib.hid (CoI.put HE.out.1 HE.out.2.1 HE.out.2.2.1 HE.out.2.2.2.1 HE.out.2.2.2.2.2 hgr hown (Nat.le_refl _))
         obtain ⟨A7, c7, rfl⟩ := own_slice hown
         have K7 := Lib.hid (And.intro (((kf_below (B := w.heap.size + 1) hbl).trans (kf_own HE.out.2.2.1.own hgr)).trans (kf_set (i := 0) h8 (.slice A7 (xs.length + 1) c7))) (((KT.below (ts := KS) hbl).t (KT.own HE.out.2.2.1.own hgr (by decide))).t (KT.set (i := 0) h8 (by decide) (.slice A7 (xs.length + 1) c7))))
         clear hown hgr h8))
    exact ⟨K7.out.1, K7.out.2, C7.out⟩
  case done =>
    rintro D W hD ⟨v, xs, e1, e2, e3, e4⟩ hK
    have cv := cell_in e2 0 _ rfl
    gi_wp2
    refine ⟨by simp, .inl ⟨_, _, rfl, run_takeDeferred hK, ?_⟩⟩
    have kd : KT [32, 63] W (W.putObj D (.deferred none)) := KT.put hK rfl
    exact ⟨_, results_tmp rfl _ _ _, v, xs, rfl, e1, e3.kept kd (by decide) (by decide), e4.trans ⟨rfl, rfl, rfl, by simp, fun k hk => World.putObj_heap_other (by omega)⟩⟩
  case stop =>
    rintro D c pre W _ _ h _
    exact h.elim
theorem collect_any (n : Nat) (hn : 7 ≤ n) {gf : Nat} {lb : Array Value} {L : List Bat} (hlen : L.length ≤ 1000000) (w : World) (eg : ∀ args w, (callFunc gf args).run Tryz.prog w = .ok (.enter gf args) w)
    (hseq : SeqM Fence.wide (n - 1 - 1) Tryz.prog gf lb EncB (TnU w.heap.size) (KT KS) L w) :
    CallsIn Fence.wide n Tryz.prog 45 #[.func (.func gf) #[] lb] w fun e W' => ∃ v xs, e = .returned v ∧ xs.map Prod.fst = L ∧ BIn w.heap.size 32 W' v xs ∧ Below w.heap.size w W' := by
  have h1 : 1 ≤ n := by omega
  refine callsIn_of_wp Tryz.func45 rfl trivial ?_ rfl
  simp only [Tryz.ntmps45, List.size_toArray, List.length_cons, List.length_nil, Nat.reduceAdd, Nat.reduceSub, Array.replicate_succ, Array.replicate_zero, List.push_toArray, List.append_toArray, List.nil_append, List.cons_append]
  gi_wp2_with (first
    | (refine ⟨trivial, ?_⟩; gi_at_call 87; refine (append_seq (n - 1) (by omega) hlen w eg hseq).mono ?_; rintro e w2 ⟨v, xs, rfl, h2⟩; have H2 := Lib.hid h2; clear h2))
  go_ret
  exact ⟨v, xs, rfl, H2.out⟩
theorem read_any (L : List UInt8) (w : World) :
    Calls Tryz.prog 8 #[.string (bs L)] w fun e w' => e = .returned (.func (.func 29) #[] #[.pointer (some ⟨w.heap.size, 0, none⟩)]) ∧ w' = w.alloc (.cells #[.string (bs L)] 9) := by
  go_enter Tryz.func8, Tryz.ntmps8
  go_wp2
  go_ret
  exact ⟨rfl, rfl⟩
/-- all that a log's bytes tell -/
theorem collect_read (L : List UInt8) (hL : L.length ≤ 1000000) {w : World} {bp : Nat} (hbp : w.heap[bp]? = some (.cells #[.string (bs L)] 9 (0, 0))) :
    Calls Tryz.prog 45 #[.func (.func 29) #[] #[.pointer (some ⟨bp, 0, none⟩)]] w fun e W' => ∃ v xs, e = .returned v ∧ xs.map Prod.fst = tell 0 (recs L 0) ∧ BIn w.heap.size 32 W' v xs ∧ Below w.heap.size w W' := by
  have hlen : (tell 0 (recs L 0)).length ≤ 1000000 := by
    have h1 := tell_len (recs L 0) 0
    have h2 := recs_few L _ 0 (Nat.le_refl _)
    omega
  exact callsIn_wide.1 (collect_any 7 (by omega) hlen w (enters_of Tryz.func29 (by kernel_rfl) rfl) (read_seqm (7 - 1 - 1) (by omega) hL hbp))
end Go.Proofs.YtdkgieaanpfhcaaGreatDoor.Wa
