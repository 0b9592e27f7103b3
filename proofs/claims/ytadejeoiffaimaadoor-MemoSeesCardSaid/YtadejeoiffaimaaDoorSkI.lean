/-
  The pairs that an iterator gives, collected: the Go text of the laws' Row walked. Conditions: as each theorem states.
-/
import Derived.Test.YtadejeoiffaimaaDoorSkH
import Derived.Maps.OwnIn
namespace Go.Proofs.YtadejeoiffaimaaDoor.Sk
open Go.RowKit Go.Shelf
open Go.Proofs.YtadejeoiffaimaaDoor.Rf

attribute [local go_sem] Oper.semAt_some

def prCells (x : Pr) : List Value := [.string x.1, .string x.2]
def prRow (P : List Pr) : List Value := P.flatMap prCells
theorem prRow_snoc (P : List Pr) (x : Pr) : prRow P ++ prCells x = prRow (P ++ [x]) := by simp [prRow]
theorem prRow_len (P : List Pr) : (prRow P).length = P.length * 2 := by
  unfold prRow
  induction P with
  | nil => rfl
  | cons x P ih => rw [List.flatMap_cons, List.length_append, ih, List.length_cons, Nat.succ_mul]; simp [prCells]; omega
theorem infoP : (Tryd.prog.info? 94).map (fun i => (i.zero, i.size, i.bytes)) = some (some (.agg #[.string ⟨#[]⟩, .string ⟨#[]⟩]), 2, 32) := by kernel_rfl
theorem row_slice {w : World} {base e size n : Nat} {v : Value} {xs : List Value} (h : w.ownsRow base e size v n xs) : ∃ a c, v = .slice a n c := by
  rcases h.2 with ⟨hv, h0⟩ | ⟨g, cap, cur, hv, _⟩
  · exact ⟨none, 0, by rw [hv, h0]⟩
  · exact ⟨_, _, hv⟩
theorem own_ge {w : World} {base e size n g : Nat} {v : Value} {xs : List Value} (h : w.ownsRow base e size v n xs) (hg : v.ownBlock = some g) : base ≤ g := by
  rcases h.2 with ⟨rfl, _⟩ | ⟨g', cap, cur, rfl, hb, _⟩
  · cases hg
  · have : g' = g := by simpa [Value.ownBlock] using hg
    omega
theorem own_cells {w : World} {base e size n g : Nat} {v : Value} {xs : List Value} (h : w.ownsRow base e size v n xs) (hg : v.ownBlock = some g) : ∃ cur, w.heap[g]? = some (.cells cur e (0, 0)) := by
  rcases h.2 with ⟨rfl, _⟩ | ⟨g', cap, cur, rfl, hb, hh, _⟩
  · cases hg
  · have : g' = g := by simpa [Value.ownBlock] using hg
    subst this; exact ⟨cur, hh⟩
/-- what lies in Row's own memory -/
structure RowW (N m : Nat) (q : List Pr) (vv : Value) (W : World) : Prop where
  most : W.heap[N]? = some (.cells #[.int .i64 (m : Nat)] 3 (0, 0))
  out : W.heap[N + 1]? = some (.cells #[vv] 91 (0, 0))
  row : W.ownsRow (N + 2) 94 2 vv q.length (prRow q)
theorem RowW.kept {N m : Nat} {q : List Pr} {vv : Value} {A B : World} (h : RowW N m q vv A) (hk : ∀ k o, N ≤ k → A.heap[k]? = some o → o.isCells = true → B.heap[k]? = A.heap[k]?) : RowW N m q vv B :=
  ⟨(hk N _ (Nat.le_refl _) h.most rfl).trans h.most, (hk (N + 1) _ (by omega) h.out rfl).trans h.out, ownsRow_kept h.row (fun g hg => by
    obtain ⟨cur, hc⟩ := own_cells h.row hg
    exact hk g _ (by have := own_ge h.row hg; omega) hc rfl)⟩
theorem RowW.grown {N m : Nat} {q : List Pr} {vv : Value} {A B : World} {row : Option Nat} (h : RowW N m q vv A) (hg : A.grownBy B row) (hr : ∀ r, row = some r → ∃ o : Obj, A.heap[r]? = some o ∧ o.isCells = false) : RowW N m q vv B :=
  h.kept fun k o _ ho hc => hg.block k (Array.getElem?_eq_some_iff.1 ho).1 (fun e => by
    obtain ⟨o', h1, h2⟩ := hr k e.symm
    rw [ho] at h1; injection h1 with h1; subst h1; rw [hc] at h2; cases h2)
theorem RowW.only {N m : Nat} {q : List Pr} {vv : Value} {A B : World} {fp : List Nat} (h : RowW N m q vv A) (hg : Only fp A B) (hf : ∀ k ∈ fp, k < N) : RowW N m q vv B :=
  h.kept fun k o hN ho _ => hg.block k (Array.getElem?_eq_some_iff.1 ho).1 (fun e => by have := hf k e; omega)
theorem own_mono {w : World} {b b' e size n : Nat} {v : Value} {xs : List Value} (h : w.ownsRow b e size v n xs) (hb : b' ≤ b) : w.ownsRow b' e size v n xs := by
  refine ⟨h.1, ?_⟩
  rcases h.2 with h0 | ⟨g, cap, cur, hv, hbg, r⟩
  · exact .inl h0
  · exact .inr ⟨g, cap, cur, hv, by omega, r⟩
theorem own_put {W : World} {N e size n D : Nat} {v : Value} {xs : List Value} (h : W.ownsRow (N + 2) e size v n xs) (hK : W.heap[D]? = some (.deferred (some []))) : (W.putObj D (.deferred none)).ownsRow N e size v n xs :=
  own_mono (ownsRow_kept h (fun g hg => World.putObj_heap_other (fun e => by
    obtain ⟨cur, hc⟩ := own_cells h hg
    subst e; rw [hK] at hc; cases hc))) (by omega)
/-- what a row's collector asks of the iterator -/
structure RowAsk (w : World) (fp : List Nat) (Tn Kp : World → World → Prop) (Inv : World → Prop) : Prop where
  lt : ∀ k ∈ fp, k < w.heap.size
  tn : ∀ A B, Tn A B → Only fp A B
  kt : ∀ {A B C : World}, Kp A B → Kp B C → Kp A C
  kp : ∀ A B, Below w.heap.size A B → Kp A B
  inv : Inv w
  ib : ∀ A B, Inv A → Below w.heap.size A B → w.heap.size ≤ A.heap.size → Inv B
  it : ∀ A B, Inv A → Tn A B → Inv B
def RowPost (w : World) (fp : List Nat) (Inv : World → Prop) (q : List Pr) (e : Ending) (w' : World) : Prop :=
  ∃ vv, e = .returned vv ∧ w'.ownsRow w.heap.size 94 2 vv q.length (prRow q) ∧ Only fp w w' ∧ Inv w'
theorem Only.cell {fp : List Nat} {w W : World} (h : Only fp w W) {g : Nat} (hg : w.heap.size ≤ g) (j : Nat) (x : Value) : Only fp w (W.setCell ⟨g, j, none⟩ x) :=
  ((Moves.mk h (fun k hk => Or.inl hk : ∀ k ∈ fp, k ∈ fp ∨ w.heap.size ≤ k)).cell (.inl hg) j x).only
theorem Only.onTo {fp : List Nat} {w W W' : World} (h : Only fp w W) {B : Nat} (hB : w.heap.size ≤ B) (hb : Below B W W') : Only fp w W' :=
  ((Moves.mk h (fun k hk => Or.inl hk : ∀ k ∈ fp, k ∈ fp ∨ w.heap.size ≤ k)).onTo hB hb).only
set_option maxRecDepth 100000 in
set_option maxHeartbeats 4000000 in
theorem row_in (n : Nat) (hn : 3 ≤ n) {w : World} {gf : Nat} {lb : Array Value} {fp : List Nat} {Tn Kp : World → World → Prop} {Inv : World → Prop} (P : List Pr) (hP : P.length ≤ 100000) (m : Nat) (hm : m ≤ 9223372036854775807) (eg : ∀ args w, (callFunc gf args).run Tryd.prog w = .ok (.enter gf args) w)
    (hseq : ∀ W, Below w.heap.size w W → SeqTurns Fence.wide (n - 1) Tryd.prog gf lb encP Tn Kp (fun xs => xs = P) (fun pre => pre <+: P) P.length W) (hA : RowAsk w fp Tn Kp Inv) :
    CallsIn Fence.wide n Tryd.prog 51 #[.func (.func gf) #[] lb, .int .i64 (m : Nat)] w (RowPost w fp Inv (P.take m)) := by
  have h1 : 1 ≤ n := by omega
  refine callsIn_of_wp_marks Tryd.func51 rfl trivial ?_ rfl
  simp only [Tryd.ntmps51, List.size_toArray, List.length_cons, List.length_nil, Nat.reduceAdd, Nat.reduceSub, Array.replicate_succ, Array.replicate_zero, List.push_toArray, List.append_toArray, List.nil_append, List.cons_append]
  gi_wp2
  have HB0 : Below w.heap.size w ((w.alloc (.cells #[.int .i64 (m : Nat)] 3)).alloc (.cells #[.slice none 0 0] 91)) := ((Below.refl _ w).alloc (Nat.le_refl _) _).alloc (by simp) _
  have hW0 : RowW w.heap.size m [] (.slice none 0 0) ((w.alloc (.cells #[.int .i64 (m : Nat)] 3)).alloc (.cells #[.slice none 0 0] 91)) := ⟨(Below.heap_alloc _ _ _ (by simp)).trans (heap_alloc_new w _), by
      have := heap_alloc_new (w.alloc (.cells #[.int .i64 (m : Nat)] 3)) (.cells #[.slice none 0 0] 91)
      rw [World.size_alloc] at this
      exact this, ⟨rfl, .inl ⟨rfl, rfl⟩⟩⟩
  have hsz : ((w.alloc (.cells #[.int .i64 (m : Nat)] 3)).alloc (.cells #[.slice none 0 0] 91)).heap.size = w.heap.size + 2 := by simp
  have hseq0 := hseq _ HB0
  have hinv0 := hA.ib _ _ hA.inv HB0 (Nat.le_refl _)
  generalize (w.alloc (.cells #[.int .i64 (m : Nat)] 3)).alloc (.cells #[.slice none 0 0] 91) = W0 at *
  refine range_turns rfl h1 (gf := gf) (lb := lb) rfl trivial eg hseq0 (fp := fp) (fun k hk => by have := hA.lt k hk; omega) hA.tn hA.kt
    (fun W lq o o' hl ho hc hw => hA.kp _ _ (belowK_b (w := W0) (by omega) W lq o o' hl ho hc hw)) (Below.refl _ _) (fun _ => rfl)
    (fun pre W => (∃ vv, RowW w.heap.size m pre vv W ∧ pre.length ≤ m) ∧ Only fp w W ∧ Inv W)
    (fun cd pre W => (cd = .exit 0 ∧ ∃ vv q x, pre = q ++ [x] ∧ RowW w.heap.size m q vv W ∧ q.length = m) ∧ Only fp w W ∧ Inv W)
    ?hI ?hIx ?hIT ⟨⟨_, hW0, Nat.zero_le _⟩, Only.of_below HB0, hinv0⟩
    (fun x => { tmps := #[.func (.func gf) #[] lb, .int .i64 (m : Nat), undef, .pointer (some ⟨w.heap.size, 0, none⟩), .slice none 0 0, .pointer (some ⟨w.heap.size + 1, 0, none⟩), .string x.1, .string x.2, .func (.func gf) #[] lb, .string x.1, .string x.2, undef, undef, undef, undef, undef, undef, undef, undef, undef, undef, undef], defers := [] }) ?assign ?body ?done ?stop
  case hI =>
    intro s A B row hs hg hr
    obtain ⟨⟨vv, hR, hl⟩, ho, hi⟩ := hs
    have hb : Below w.heap.size A B := (Below.refl _ A).grown hg ho.size (fun k e => by have := (hr k e).1; omega)
    exact ⟨⟨vv, hR.grown hg (fun r e => (hr r e).2), hl⟩, ho.onTo (Nat.le_refl _) hb, hA.ib _ _ hi hb ho.size⟩
  case hIx =>
    intro cd s A B row hs hg hr
    obtain ⟨⟨rfl, vv, q, x, hp, hR, hl⟩, ho, hi⟩ := hs
    have hb : Below w.heap.size A B := (Below.refl _ A).grown hg ho.size (fun k e => by have := (hr k e).1; omega)
    exact ⟨⟨rfl, vv, q, x, hp, hR.grown hg (fun r e => (hr r e).2), hl⟩, ho.onTo (Nat.le_refl _) hb, hA.ib _ _ hi hb ho.size⟩
  case hIT =>
    rintro pre A B ⟨⟨vv, hR, hl⟩, ho, hi⟩ ht
    exact ⟨⟨vv, hR.only (hA.tn _ _ ht) hA.lt, hl⟩, ho.trans (hA.tn _ _ ht), hA.it _ _ hi ht⟩
  case assign =>
    intro l' x W K hK
    gi_wp2
    exact hK
  case body =>
    rintro l' pre x W ⟨⟨vv, hR, hl⟩, ho, hi⟩ hlen
    obtain ⟨va, vc, rfl⟩ := row_slice hR.row
    have c0 := cell_in hR.most 0 (.int .i64 (m : Nat)) rfl
    have c1 := cell_in hR.out 0 _ rfl
    have f1 := free_in hR.out 0
    have hws := ho.size
    have hN1 : w.heap.size + 1 < W.heap.size := (Array.getElem?_eq_some_iff.1 hR.out).1
    by_cases hm2 : pre.length < m
    · obtain ⟨i0, hi0, hz0, hz1, hz2⟩ := info_parts infoP
      have HI := Lib.hid (And.intro hi0 (And.intro hz0 (And.intro hz1 hz2)))
      have hne : Hid (some (w.heap.size + 1) ≠ (Value.slice va pre.length vc).ownBlock) := fun e => by have := own_ge hR.row e.symm; omega
      have hRow := Lib.hid hR.row
      have HR := Lib.hid hR
      have HO := Lib.hid (And.intro ho hi)
      clear hi0 hz0 hz1 hz2 hR ho hi
      have hpl : pre.length ≤ 100000 := by omega
      gi_wp2_with (first
        | (gi_at_builtin
           refine wpListIn_append_own_at _ rfl (.tmp 15) (.tmp 19) 91 rfl (w.heap.size + 2) 94 i0 _ 2 32 Tryd.underlying91 HI.out.1 HI.out.2.1 HI.out.2.2.1 HI.out.2.2.2 rfl (by decide) (.slice va pre.length vc) pre.length (prRow pre) rfl (hRow.out.alloc _) ⟨W.heap.size, 0, none⟩ 1 1 (prCells x) rfl rfl (World.news_of_block (heap_alloc_new W _)) (by intro u hu; simp [prCells] at hu; rcases hu with rfl | rfl <;> rfl) (by unfold maxLen; omega) (by omega) (by simp; omega) ?_
           intro v' w4 hown4 hgrow4 _ hwhere
           obtain ⟨va', vc', rfl⟩ := row_slice hown4
           have hB4 : (k : Nat) → k < W.heap.size → some k ≠ (Value.slice va pre.length vc).ownBlock → w4.heap[k]? = W.heap[k]? := fun k hk hn => (hgrow4.block k (by simp; omega) hn).trans (Below.heap_alloc W _ k hk)
           have c4 : w4.cell? ⟨w.heap.size + 1, 0, none⟩ = some (.slice va pre.length vc) := (World.cell?_of_block (hB4 _ hN1 hne.out)).trans c1
           have f4 : w4.frozen? ⟨w.heap.size + 1, 0, none⟩ = false := (World.frozen?_of_block (hB4 _ hN1 hne.out)).trans f1
           have H4 := Lib.hid (And.intro hown4 (And.intro hgrow4 (And.intro hwhere hB4)))
           clear hown4 hgrow4 hwhere hB4))
      obtain ⟨hown4, hgrow4, hwhere, hB4⟩ := H4.out
      have hbel : Below (w.heap.size + 1) W w4 := by
        have h0 : Below (w.heap.size + 1) (W.alloc (.cells #[.string x.1, .string x.2] 94)) w4 := (Below.refl _ _).grown hgrow4 (by simp; omega) (fun k e => by have := own_ge hRow.out e; omega)
        exact ((Below.refl _ W).alloc (by omega) _).trans h0
      have hnv : (Value.slice va' (pre.length + 1) vc').ownBlock ≠ some (w.heap.size + 1) := by
        rcases hwhere with h | h
        · rw [h]; exact Ne.symm hne.out
        · rw [h]; simp; omega
      refine ⟨?_, hA.kp _ _ ?_, ⟨.slice va' (pre.length + 1) vc', ⟨?_, ?_, ?_⟩, by simp; omega⟩, (HO.out.1.onTo (by omega) hbel).cell (by omega) 0 _, ?_⟩
      · exact ((KeepsOthers.alloc W _).trans (KeepsOthers.of_grownBy hgrow4 (fun r o e ho => by
          obtain ⟨cur, hc⟩ := own_cells (hRow.out.alloc (.cells #[.string x.1, .string x.2] 94)) e
          rw [hc] at ho; injection ho with ho; subst ho; rfl))).trans (KeepsOthers.setCell _ _ _)
      · exact (hbel.mono (by omega)).setCell (p := ⟨w.heap.size + 1, 0, none⟩) (by simp) _
      · exact (Below.heap_setCell _ _ _ _ (by simp)).trans ((hbel.block _ (by omega)).trans HR.out.most)
      · have h0 := heap_set ((hB4 _ hN1 hne.out).trans HR.out.out) 0 (.slice va' (pre.length + 1) vc')
        simpa using h0
      · have h0 := ownsRow_kept (w' := w4.setCell ⟨w.heap.size + 1, 0, none⟩ (.slice va' (pre.length + 1) vc')) hown4 (fun g hg => Below.heap_setCell _ _ _ _ (fun e => hnv (by rw [hg, e])))
        rw [prRow_snoc] at h0
        rw [List.length_append]; exact h0
      · exact hA.ib _ _ HO.out.2 ((hbel.mono (by omega)).setCell (p := ⟨w.heap.size + 1, 0, none⟩) (by simp) _) hws
    · have hm3 : m ≤ pre.length := by omega
      gi_wp2
      exact ⟨KeepsOthers.refl _, ⟨rfl, _, pre, x, rfl, hR, by omega⟩, ho, hi⟩
  case done =>
    rintro D ys W hD rfl ⟨⟨vv, hR, hl⟩, ho, hi⟩ hK
    have hc := cell_in hR.out 0 vv rfl
    gi_wp2
    refine ⟨by simp, .inl ⟨_, _, rfl, run_takeDeferred hK, ?_⟩⟩
    have hb : Below w.heap.size W (W.putObj D (.deferred none)) := belowK_b (w := w) (Nat.le_refl _) W D _ _ (by omega) hK rfl rfl
    refine ⟨_, results_tmp rfl _ _ _, vv, rfl, ?_, ho.onTo (Nat.le_refl _) hb, hA.ib _ _ hi hb ho.size⟩
    rw [List.take_of_length_le hl]
    exact own_put hR.row hK
  case stop =>
    rintro D cd pre W hD hpre ⟨⟨rfl, vv, q, x, hp, hR, hl⟩, ho, hi⟩ hK
    have hc := cell_in hR.out 0 vv rfl
    have hq : P.take m = q := by
      obtain ⟨r, hr⟩ := hpre
      rw [hp] at hr
      rw [← hr, ← hl]; simp
    gi_wp2
    refine ⟨by simp, .inl ⟨_, _, rfl, run_takeDeferred hK, ?_⟩⟩
    have hb : Below w.heap.size W (W.putObj D (.deferred none)) := belowK_b (w := w) (Nat.le_refl _) W D _ _ (by omega) hK rfl rfl
    refine ⟨_, results_tmp rfl _ _ _, vv, rfl, ?_, ho.onTo (Nat.le_refl _) hb, hA.ib _ _ hi hb ho.size⟩
    rw [hq]
    exact own_put hR.row hK
end Go.Proofs.YtadejeoiffaimaaDoor.Sk
