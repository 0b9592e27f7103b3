/-
  The law FrameBack, walked where its records are few and short. Conditions: as each theorem states.
-/
import Derived.Test.YtjooaocmkhldeaaFrL
namespace Go.Proofs.Ytjooaocmkhldeaa.frameBack
open Go.RowKit Go.Shelf
open Go.Proofs.Ytjooaocmkhldeaa
open Vi
variable {w : World}

attribute [local go_sem] Oper.semAt_some

theorem owns_ints {w : World} {B : Nat} {v : Value} {es : List Nat} {m : Nat} (hm : es.length = m) (h : w.ownsRow B 3 1 v m (eCells es)) :
    ∃ E cap, v = .slice E m cap ∧ (0 < m → ∃ a, E = some a ∧ B ≤ a.block ∧ ∀ i (hi : i < es.length), w.cell? (a.add i) = some (.int .i64 (es[i] : Nat))) := by
  have hc := fun g hg => h.cells (g := g) hg
  rcases h.2 with ⟨rfl, h0⟩ | ⟨g, cap, cur, rfl, hb, hg, _⟩
  · exact ⟨none, 0, by rw [h0], fun h1 => by omega⟩
  · refine ⟨some ⟨g, 0, none⟩, cap, rfl, fun _ => ⟨_, rfl, hb, fun i hi => ?_⟩⟩
    have := hc g rfl i (.int .i64 (es[i] : Nat)) (by simp [eCells, hi])
    exact this
theorem wrap64_small {x : Int} (h1 : -9223372036854775808 ≤ x) (h2 : x ≤ 9223372036854775807) : wrap64 x = x := by
  unfold wrap64; omega
theorem cut_at (cut : Int) (G : Nat) (hG : G ≤ 1000000) : ∃ k : Nat, wrap64 ((IntKind.u64.wrap cut).tmod ((G : Int) + 1)) = (k : Int) ∧ k ≤ G := by
  have hu : 0 ≤ IntKind.u64.wrap cut := by
    have : IntKind.u64.wrap cut = cut % 18446744073709551616 := by simp [IntKind.wrap, IntKind.bits, IntKind.signed]
    omega
  have e : (IntKind.u64.wrap cut).tmod ((G : Int) + 1) = IntKind.u64.wrap cut % ((G : Int) + 1) := Int.tmod_eq_emod_of_nonneg hu
  have h0 := Int.emod_nonneg (IntKind.u64.wrap cut) (show (G : Int) + 1 ≠ 0 by omega)
  have h1 := Int.emod_lt_of_pos (IntKind.u64.wrap cut) (show (0 : Int) < (G : Int) + 1 by omega)
  refine ⟨(IntKind.u64.wrap cut % ((G : Int) + 1)).toNat, ?_, by omega⟩
  rw [e, show wrap64 (IntKind.u64.wrap cut % ((G : Int) + 1)) = IntKind.u64.wrap cut % ((G : Int) + 1) from wrap64_small (by omega) (by omega)]
  omega
theorem wrap_len (G : Nat) (hG : G ≤ 1000000) : wrap64 ((G : Int) + 1) = (G : Int) + 1 ∧ IntKind.u64.wrap ((G : Int) + 1) = (G : Int) + 1 :=
  ⟨wrap64_small (by omega) (by omega), by simp [IntKind.wrap, IntKind.bits, IntKind.signed]; omega⟩
/-- What a round leaves: all cells of the loop's start but its counter's. -/
def Keeps (W5 : World) (N : Nat) (W : World) : Prop := ∀ p v, W5.cell? p = some v → p.block ≠ N → W.cell? p = some v
theorem cell_other {W : World} {a p : Addr} (v : Value) (h : p.block ≠ a.block) : (W.setCell a v).cell? p = W.cell? p := by
  unfold World.cell?; rw [Below.heap_setCell _ _ _ _ h]
theorem cell_lt {w : World} {p : Addr} {v : Value} (h : w.cell? p = some v) : p.block < w.heap.size := by
  rcases Nat.lt_or_ge p.block w.heap.size with h' | h'
  · exact h'
  · unfold World.cell? at h
    rw [Array.getElem?_eq_none h'] at h
    simp at h
theorem pre_snoc {xs pre : List RecX} {x : RecX} (h : pre <+: xs) (hm : pre.length < xs.length) (hx : xs[pre.length] = x) : pre ++ [x] <+: xs := by
  obtain ⟨r, rfl⟩ := h
  match r with
  | [] => simp at hm
  | y :: r =>
    simp at hx
    subst hx
    exact ⟨r, by simp⟩
theorem pre_at {xs pre : List RecX} {x : RecX} (h : pre ++ [x] <+: xs) : ∃ hm : pre.length < xs.length, xs[pre.length] = x := by
  obtain ⟨r, rfl⟩ := h
  exact ⟨by simp, by simp⟩
theorem zip_at {l : List (List UInt8)} {es : List Nat} (m : Nat) (h1 : m < l.length) (h2 : m < es.length) (h : m < (l.zip es).length) : (l.zip es)[m] = (l[m], es[m]) := by simp
theorem ret_box_d {n : Nat} {w W : World} {tmps : Array Value} {v : Bool} {D : Nat} {R : Ending → World → Prop} (ht : tmps[4]? = some (.pointer (some ⟨w.heap.size + 1, 0, none⟩))) (hK : W.heap[D]? = some (.deferred (some []))) (hc : W.cell? ⟨w.heap.size + 1, 0, none⟩ = some (.bool v)) (hR : R (.returned (.bool v)) (W.putObj D (.deferred none))) :
    bodyPostM Fence.wide n Try.prog Try.f5 R Exit.ret { tmps := tmps, defers := [{ target := .collected D, args := #[] }] } W := by
  refine ⟨by simp, .inl ⟨_, _, rfl, run_takeDeferred hK, ⟨.bool v, ?_, hR⟩⟩⟩
  have hres := Try.results5
  have hc5 := cell_kept hc (grownBy_putObj' _ D (.deferred none)) (fun r e => by cases e; exact ⟨_, hK, rfl⟩)
  simp [results, hres, go_sem, ht, hc5]
theorem cnt_snoc (k : Nat) (es : List Nat) (e : Nat) : cnt k (es ++ [e]) = cnt k es + (if e ≤ k then 1 else 0) := by
  unfold cnt
  rw [List.filter_append, List.length_append]
  by_cases h : e ≤ k <;> simp [h]
theorem cnt_le (k : Nat) (es : List Nat) : cnt k es ≤ es.length := List.length_filter_le _ _
set_option maxRecDepth 100000 in
set_option maxHeartbeats 4000000 in
theorem main_in (n : Nat) (hn : 4 ≤ n) (A : Option Addr) (c : Nat) (l : List (List UInt8)) (hl : l.length ≤ 20) (RA : Hid (SRow w A l)) (hs : ∀ s ∈ l, s.length ≤ 2000) (cut : Int) (hcl : -9223372036854775808 ≤ cut) (hch : cut ≤ 9223372036854775807) :
    CallsIn Fence.wide n Try.prog 5 #[.slice A l.length c, .int .i64 cut] w fun e W' => e = .returned (.bool true) ∧ Below w.heap.size w W' := by
  have hbz := bs_size
  have hbt := bs_take
  have hGl := logOf_len l [] hs
  have HS := Lib.hid hs
  clear hs
  have h1 : 1 ≤ n := by omega
  refine callsIn_of_wp_marks Try.func5 rfl trivial ?_ rfl
  simp only [Try.ntmps5, List.size_toArray, List.length_cons, List.length_nil, Nat.reduceAdd, Nat.reduceSub, Array.replicate_succ, Array.replicate_zero, List.push_toArray, List.append_toArray, List.nil_append, List.cons_append]
  gi_wp2_with (first | (refine ⟨trivial, ?_⟩; gi_at_call 7; refine (callsIn_wide.2 (awake_any _)).mono ?_; rintro e w1 ⟨rfl, hb1⟩; have B1 := bx_on (bx_start w A c l.length) hb1; obtain ⟨hc0, hc1, hf1⟩ := bx_cells B1))
  have RA1 := on_below (on_below RA (((Below.refl _ w).alloc (Nat.le_refl _) (.cells #[.slice A l.length c] 35)).alloc (by simp) (.cells #[.bool false] 4))) hb1
  gi_loop [23] (fun i => ∃ j : Nat, j ≤ l.length ∧ i = .int .i64 j) (fun i => l.length - (intOf i).toNat)
  case atStart => exact ⟨0, by omega, rfl⟩
  case round =>
    obtain ⟨j, hj, rfl⟩ := hrel
    by_cases hjk : j < l.length
    · obtain ⟨a, rfl, hab, hca⟩ := RA1.out (by omega)
      have x0 := hca j hjk
      have hs := HS.out l[j] (List.getElem_mem hjk)
      clear hca
      generalize l[j] = s at x0 hs
      gi_wp2
      exact ⟨⟨j + 1, by omega, by go_num⟩, by simp [intOf]; omega⟩
    · have LD := Lib.hid (fun W (hW : SRow W A l) => laid_any A c l hl HS.out hW)
      have hel := ends_len l []
      have hrc := recs_cut l []
      have hwl := whole_log l
      generalize hGe : logOf [] l = G at *
      have hG6 : G.length ≤ 1000000 := by simp at hGl; omega
      obtain ⟨hw1, hw2⟩ := wrap_len G.length hG6
      obtain ⟨k, hwk, hkG⟩ := cut_at cut G.length hG6
      have hkI : (0 : Int) ≤ (k : Int) := by omega
      have hkJ : (k : Int) ≤ (G.length : Int) := by omega
      have hrk : recs (List.take k G) 0 = (l.zip (endsOf [] l)).take (cnt k (endsOf [] l)) := hrc k (by simp)
      clear hrc
      gi_wp2_with (first
        | (refine ⟨trivial, ?_⟩; gi_at_call 14; refine (callsIn_wide.2 (LD.out _ RA1.out)).mono ?_; rintro e w2 ⟨⟨v, rfl, hown⟩, hb2⟩; obtain ⟨E, cap, rfl, hE⟩ := owns_ints hel hown; have HEr := Lib.hid hE; clear hE hown)
        | (refine ⟨trivial, ?_⟩; gi_at_call 12; refine (callsIn_wide.2 (records_any _ _)).mono ?_; rintro e w3 ⟨rfl, rfl⟩))
      have hel2 : (endsOf [] l).length = l.length := hel
      have B2 := bx_on B1 hb2
      have hB25 : Below w2.heap.size w2 (((w2.alloc (.cells #[.slice E l.length cap] 36)).alloc (.cells #[.int .i64 0] 3)).alloc (.cells #[.string (bs (List.take k G))] 9)) := (((Below.refl _ w2).alloc (Nat.le_refl _) _).alloc (by simp) _).alloc (by simp; omega) _
      have B5 := bx_on B2 hB25
      have RA5 := on_below (on_below RA1 hb2) hB25
      have hl2 := B2.out.lt
      have hbox : (((w2.alloc (.cells #[.slice E l.length cap] 36)).alloc (.cells #[.int .i64 0] 3)).alloc (.cells #[.string (bs (List.take k G))] 9)).heap[w2.heap.size + 1 + 1]? = some (.cells #[.string (bs (List.take k G))] 9) := by
        have := heap_alloc_last ((w2.alloc (.cells #[.slice E l.length cap] 36)).alloc (.cells #[.int .i64 0] 3)) (.cells #[.string (bs (List.take k G))] 9)
        simp only [World.size_alloc] at this
        exact this
      have hn0 : (((w2.alloc (.cells #[.slice E l.length cap] 36)).alloc (.cells #[.int .i64 0] 3)).alloc (.cells #[.string (bs (List.take k G))] 9)).heap[w2.heap.size + 1]? = some (.cells #[.int .i64 0] 3) := (Below.heap_alloc _ _ _ (by simp)).trans (by
        have := heap_alloc_last (w2.alloc (.cells #[.slice E l.length cap] 36)) (.cells #[.int .i64 0] 3)
        simp only [World.size_alloc] at this
        exact this)
      have he0 : (((w2.alloc (.cells #[.slice E l.length cap] 36)).alloc (.cells #[.int .i64 0] 3)).alloc (.cells #[.string (bs (List.take k G))] 9)).heap[w2.heap.size]? = some (.cells #[.slice E l.length cap] 36) := (Below.heap_alloc _ _ _ (by simp; omega)).trans ((Below.heap_alloc _ _ _ (by simp)).trans (heap_alloc_last w2 _))
      have F6 := cell_in hn0 0 _ rfl
      have F6f := free_in hn0 0
      have F3 := cell_in he0 0 _ rfl
      obtain ⟨F1, F2, F2f⟩ := bx_cells B5
      have F4 : Hid (∀ m (h : m < l.length), ∃ a, A = some a ∧ (((w2.alloc (.cells #[.slice E l.length cap] 36)).alloc (.cells #[.int .i64 0] 3)).alloc (.cells #[.string (bs (List.take k G))] 9)).cell? (a.add m) = some (.string (bs l[m])) ∧ (a.add m).block ≠ w2.heap.size + 1) := fun m h => by
        obtain ⟨a, e, hlt, hc⟩ := (on_below RA1 hb2).out (by omega)
        obtain ⟨a', e', _, hc'⟩ := RA5.out (by omega)
        rw [e] at e'; injection e' with e'; subst e'
        exact ⟨a, e, hc' m h, by rw [block_add]; omega⟩
      have F5 : Hid (∀ m (h : m < (endsOf [] l).length), ∃ a, E = some a ∧ (((w2.alloc (.cells #[.slice E l.length cap] 36)).alloc (.cells #[.int .i64 0] 3)).alloc (.cells #[.string (bs (List.take k G))] 9)).cell? (a.add m) = some (.int .i64 ((endsOf [] l)[m] : Nat)) ∧ (a.add m).block ≠ w2.heap.size + 1) := fun m h => by
        obtain ⟨a, e, _, hc⟩ := HEr.out (by omega)
        have hlt := cell_lt (hc m h)
        exact ⟨a, e, (hB25.cell hlt).trans (hc m h), by omega⟩
      have hB5 : Hid (Below w.heap.size w (((w2.alloc (.cells #[.slice E l.length cap] 36)).alloc (.cells #[.int .i64 0] 3)).alloc (.cells #[.string (bs (List.take k G))] 9))) := B5.out.2.2
      have hs5 : (((w2.alloc (.cells #[.slice E l.length cap] 36)).alloc (.cells #[.int .i64 0] 3)).alloc (.cells #[.string (bs (List.take k G))] 9)).heap.size = w2.heap.size + 3 := by simp
      generalize hW5 : (((w2.alloc (.cells #[.slice E l.length cap] 36)).alloc (.cells #[.int .i64 0] 3)).alloc (.cells #[.string (bs (List.take k G))] 9)) = W5 at *
      refine wpIn_rangeFunc_ownF rfl h1 (gf := 25) (lb := #[.pointer (some ⟨w2.heap.size + 1 + 1, 0, none⟩)]) rfl trivial (enters_of Try.func25 (by kernel_rfl) rfl)
        (recs_stops (n - 1) (by omega) (w2.heap.size + 1 + 1) (List.take k G) (by rw [List.length_take]; omega) _ hbox) keepB_t (keepB_b (by omega)) (Below.refl _ _) (fun _ => rfl)
        (fun pre W => (Keeps W5 (w2.heap.size + 1) W ∧ W.cell? ⟨w2.heap.size + 1, 0, none⟩ = some (.int .i64 (pre.length : Nat)) ∧ W.frozen? ⟨w2.heap.size + 1, 0, none⟩ = false ∧ W.frozen? ⟨w.heap.size + 1, 0, none⟩ = false ∧ pre <+: l.zip (endsOf [] l)) ∧ Below w.heap.size w W)
        (fun cd pre W => (cd = .ret ∧ ¬ pre <+: l.zip (endsOf [] l)) ∧ Below w.heap.size w W)
        (OwnFrom.and (Own.from (fun s A B row hs hg hr => ⟨fun p v h hne => cell_kept (hs.1 p v h hne) hg hr, cell_kept hs.2.1 hg hr, (frozen_kept hs.2.1 hg hr).trans hs.2.2.1, (frozen_kept (hs.1 _ _ F2 (by show w.heap.size + 1 ≠ w2.heap.size + 1; omega)) hg hr).trans hs.2.2.2.1, hs.2.2.2.2⟩) _) (ownFrom_below (Nat.le_refl _) (by omega)))
        (fun cd => OwnFrom.and (Own.from (fun s A B row hs hg hr => hs) _) (ownFrom_below (Nat.le_refl _) (by omega)))
        ⟨⟨fun p v h _ => h, F6, F6f, F2f, ⟨_, rfl⟩⟩, hB5.out⟩
        (fun x => { tmps := #[.slice A l.length c, .int .i64 cut, .pointer (some ⟨w.heap.size, 0, none⟩), undef, .pointer (some ⟨w.heap.size + 1, 0, none⟩), undef, u6, .string (bs G), .pointer (some ⟨w2.heap.size, 0, none⟩), .int .i64 k, .pointer (some ⟨w2.heap.size + 1, 0, none⟩), .string (bs x.1), .int .i64 x.2, undef, undef, undef, .bool true, .bool false, .slice A l.length c, .int .i64 l.length, .bool (decide (20 < (l.length : Int))), .slice A l.length c, .int .i64 l.length, .int .i64 j, .bool false, u25, u26, u27, u28, u29, u30, .tuple #[.string (bs G), .slice E l.length cap], .slice A l.length c, .tuple #[.string (bs G), .slice E l.length cap], .string (bs G), .slice E l.length cap, .int .i64 cut, .int .u64 (IntKind.u64.wrap cut), .string (bs G), .int .i64 G.length, .int .i64 ((G.length : Int) + 1), .int .u64 ((G.length : Int) + 1), .int .u64 ((IntKind.u64.wrap cut).tmod ((G.length : Int) + 1)), .int .i64 k, .string (bs G), .int .i64 k, .string (bs (List.take k G)), .func (.func 25) #[] #[.pointer (some ⟨w2.heap.size + 1 + 1, 0, none⟩)], .string (bs x.1), .int .i64 x.2, undef, undef, undef, undef, undef, undef, undef, undef, undef, undef, undef, undef, undef, undef, undef, undef, undef, undef, undef, undef, undef, undef, undef, undef, undef, undef, undef, undef, undef, undef, undef, undef, undef, undef, undef, undef, undef, undef, undef, undef, undef, undef, undef, undef, undef, undef, undef, undef, undef], defers := [] }) ?assign ?body ?done ?stop
      case assign =>
        intro l' x W K hK
        gi_wp2
        exact hK
      case body =>
        rintro l' pre x W ⟨⟨hk, hcn, hfn, hfr, hpre⟩, hB⟩ _
        have g1 := hk _ _ F1 (by show w.heap.size ≠ w2.heap.size + 1; omega)
        have g2 := hk _ _ F2 (by show w.heap.size + 1 ≠ w2.heap.size + 1; omega)
        have g3 := hk _ _ F3 (by show w2.heap.size ≠ w2.heap.size + 1; omega)
        have hxl : (l.zip (endsOf [] l)).length = l.length := by simp [hel2]
        have hpl := hpre.length_le
        have hbl := bs_list
        by_cases hm : pre.length < l.length
        · obtain ⟨a, rfl, hx, hxn⟩ := F4.out pre.length hm
          obtain ⟨a', rfl, hy, hyn⟩ := F5.out pre.length (by omega)
          have y0 := hk _ _ hx hxn
          have z0 := hk _ _ hy hyn
          have hm2 : ¬ l.length ≤ pre.length := by omega
          by_cases e1 : x.1 = l[pre.length]
          · by_cases e2 : x.2 = (endsOf [] l)[pre.length]
            · have HP := Lib.hid (pre_snoc hpre (by omega) (x := x) (by rw [zip_at _ hm (by omega), ← e1, ← e2]))
              have q1 : (x.1 == l[pre.length]) = true := by rw [e1]; simp
              have q2 : ((x.2 : Int) != ((endsOf [] l)[pre.length] : Nat)) = false := by rw [e2]; simp
              generalize l[pre.length] = lm at y0 q1
              generalize (endsOf [] l)[pre.length]'(by omega) = em at z0 q2
              clear hx hy e1 e2 hpre
              gi_wp2
              exact ⟨KeepsOthers.setCell _ _ _, Below.heap_setCell _ _ _ _ (by show w2.heap.size + 1 + 1 ≠ w2.heap.size + 1; omega), ⟨fun p v h hne => (cell_other _ hne).trans (hk p v h hne), by
                have hq := World.cell?_setCell_same' W ⟨w2.heap.size + 1, 0, none⟩ (.int .i64 ((pre.length : Int) + 1)) (by rw [hcn]; rfl)
                rw [hq]; simp, by rw [World.frozen?_setCell]; exact hfn, by rw [World.frozen?_setCell]; exact hfr, HP.out⟩, hB.setCell (p := ⟨w2.heap.size + 1, 0, none⟩) (by show w.heap.size ≤ w2.heap.size + 1; omega) _⟩
            · have HP : Hid (¬ pre ++ [x] <+: l.zip (endsOf [] l)) := fun h => by
                obtain ⟨_, h2'⟩ := pre_at h
                rw [zip_at _ hm (by omega)] at h2'
                exact e2 (by rw [← h2'])
              have q1 : (x.1 == l[pre.length]) = true := by rw [e1]; simp
              have q2 : ((x.2 : Int) != ((endsOf [] l)[pre.length] : Nat)) = true := by simp; omega
              generalize l[pre.length] = lm at y0 q1
              generalize (endsOf [] l)[pre.length]'(by omega) = em at z0 q2
              clear hx hy e1 e2 hpre
              gi_wp2
              exact ⟨KeepsOthers.setCell _ _ _, ⟨rfl, HP.out⟩, hB.setCell (p := ⟨w.heap.size + 1, 0, none⟩) (by simp) _⟩
          · have HP : Hid (¬ pre ++ [x] <+: l.zip (endsOf [] l)) := fun h => by
              obtain ⟨_, h2'⟩ := pre_at h
              rw [zip_at _ hm (by omega)] at h2'
              exact e1 (by rw [← h2'])
            have q1 : (x.1 == l[pre.length]) = false := by simpa using e1
            generalize l[pre.length] = lm at y0 q1
            generalize (endsOf [] l)[pre.length]'(by omega) = em at z0
            clear hx hy e1 hpre
            gi_wp2
            exact ⟨KeepsOthers.setCell _ _ _, ⟨rfl, HP.out⟩, hB.setCell (p := ⟨w.heap.size + 1, 0, none⟩) (by simp) _⟩
        · have HP : Hid (¬ pre ++ [x] <+: l.zip (endsOf [] l)) := fun h => by
            obtain ⟨h1', _⟩ := pre_at h
            omega
          have hm2 : l.length ≤ pre.length := by omega
          gi_wp2
          exact ⟨KeepsOthers.setCell _ _ _, ⟨rfl, HP.out⟩, hB.setCell (p := ⟨w.heap.size + 1, 0, none⟩) (by simp) _⟩
      case done =>
        rintro D ys W hD rfl ⟨⟨hk, hcn, hfn, hfr, hpre⟩, hB⟩ hK
        have g1 := hk _ _ F1 (by show w.heap.size ≠ w2.heap.size + 1; omega)
        have g2 := hk _ _ F2 (by show w.heap.size + 1 ≠ w2.heap.size + 1; omega)
        have g3 := hk _ _ F3 (by show w2.heap.size ≠ w2.heap.size + 1; omega)
        have hyl : (recs (List.take k G) 0).length = cnt k (endsOf [] l) := by
          rw [hrk, List.length_take]
          have := cnt_le k (endsOf [] l)
          simp [hel2]; omega
        rw [hyl] at hcn
        gi_wp2
        gi_loop [13, 74] (fun wt i => ∃ j : Nat, j ≤ l.length ∧ wt = .int .i64 (cnt k ((endsOf [] l).take j)) ∧ i = .int .i64 j) (fun _ i => l.length - (intOf i).toNat)
        case atStart => exact ⟨0, by omega, rfl, rfl⟩
        case round =>
          obtain ⟨i, hi, rfl, rfl⟩ := hrel
          by_cases hil : i < l.length
          · obtain ⟨a', rfl, hy, hyn⟩ := F5.out i (by omega)
            have z0 := hk _ _ hy hyn
            have htk := List.take_succ_eq_append_getElem (show i < (endsOf [] l).length by omega)
            have hsn := cnt_snoc k ((endsOf [] l).take i) ((endsOf [] l)[i]'(by omega))
            rw [← htk] at hsn
            have HSN := Lib.hid hsn
            have hcl20 := cnt_le k ((endsOf [] l).take i)
            rw [List.length_take] at hcl20
            clear hsn htk hy
            generalize (endsOf [] l)[i]'(by omega) = em at z0 HSN
            generalize cnt k ((endsOf [] l).take i) = ci at *
            by_cases hle : em ≤ k
            · have hci : ((ci : Nat) : Int) + 1 ≤ 9223372036854775807 := by omega
              gi_wp2
              exact ⟨⟨i + 1, by omega, by rw [HSN.out, if_pos hle]; exact val_int (by omega), by go_num⟩, by simp [intOf]; omega⟩
            · gi_wp2
              exact ⟨⟨i + 1, by omega, by rw [HSN.out, if_neg hle]; exact val_int (by omega), by go_num⟩, by simp [intOf]; omega⟩
          · obtain rfl : i = l.length := by omega
            have htl : (endsOf [] l).take l.length = endsOf [] l := List.take_of_length_le (by omega)
            rw [htl]
            have WH := Lib.hid (fun W => whole_any G hG6 W)
            rw [hwl] at WH
            gi_wp2_with (first | (refine ⟨trivial, ?_⟩; gi_at_call 13; refine (callsIn_wide.2 (WH.out _)).mono ?_; rintro e w6 ⟨rfl, hb6⟩; have c6 : w6.cell? ⟨w.heap.size + 1, 0, none⟩ = some (.bool false) := (hb6.cell (cell_lt g2)).trans g2; have f6 : w6.frozen? ⟨w.heap.size + 1, 0, none⟩ = false := (frozen_kept g2 (grown_below hb6 none) (fun r e => by cases e)).trans hfr))
            have hK6 : w6.heap[D]? = some (.deferred (some [])) := (hb6.block D (Array.getElem?_eq_some_iff.1 hK).1).trans hK
            have hK7 := (KeepsOthers.setCell w6 ⟨w.heap.size + 1, 0, none⟩ (.bool true)).same D _ hK6 rfl
            have hB6 := hB.trans (hb6.mono hB.size)
            refine ret_box_d rfl hK7 (World.cell?_setCell_same' _ _ _ (by rw [c6]; rfl)) ⟨rfl, ?_⟩
            exact (hB6.setCell (p := ⟨w.heap.size + 1, 0, none⟩) (by simp) _).trans (belowK_b (w := w) (Nat.le_refl _) _ D _ _ (by omega) hK7 rfl rfl)
      case stop =>
        rintro D cd pre W hD hpre ⟨⟨rfl, hn'⟩, hB⟩ hK
        rw [hrk] at hpre
        exact absurd (hpre.trans (List.take_prefix _ _)) hn'
end Go.Proofs.Ytjooaocmkhldeaa.frameBack
