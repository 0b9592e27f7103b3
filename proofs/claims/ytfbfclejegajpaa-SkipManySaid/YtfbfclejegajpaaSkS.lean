/-
  The law SkipMany, walked. Conditions: as each theorem states.
-/
import Derived.Test.YtfbfclejegajpaaSkR
namespace Go.Proofs.Ytfbfclejegajpaa.Sk
open Go.RowKit Go.Shelf
open Go.Proofs.Ytfbfclejegajpaa.Rf

attribute [local go_sem] Oper.semAt_some

theorem two_bytes (W : World) (g : Nat) (hg : g = W.heap.size) (c d : Int) : (convert 54 9 (.slice (some ⟨g, 0, none⟩) 2 2)).run Try.prog (W.alloc (.cells #[.int .u8 c, .int .u8 d] 5)) =
    .ok (.string ⟨#[UInt8.ofNat c.toNat, UInt8.ofNat d.toNat]⟩) (W.alloc (.cells #[.int .u8 c, .int .u8 d] 5)) := by
  subst hg
  rw [run_convert_bytes_string _ _ _ 5 _ _ _ Try.underlying54 Try.underlying5 Try.underlying9]
  have hl := run_loadCells_list (P := Try.prog) (W.alloc (.cells #[.int .u8 c, .int .u8 d] 5)) ⟨W.heap.size, 0, none⟩ ([c, d].map (Value.int .u8)) (fun j v hj => by
    match j, hj with
    | 0, hj => simp at hj; subst hj; simp [Addr.add]
    | 1, hj => simp at hj; subst hj; simp [Addr.add])
  rw [run_bytesToString _ _ 2 2 [c, d] hl]
  rfl
structure MW (w wr : World) (l : Nat) (v : Value) (P : List Pr) (nn : Nat) : Prop where
  lst : Lst wr l v P nn
  far : ∀ k ∈ feet l v, w.heap.size + 1 ≤ k
  box : wr.heap[w.heap.size]? = some (.cells #[.bool false] 4 (0, 0))
  bel : Below w.heap.size w wr
section
variable {w wr w' : World} {l nn nn' : Nat} {v v' : Value} {P P' : List Pr}
theorem MW.on (h : MW w wr l v P nn) (hb : Below wr.heap.size wr w') : MW w w' l v P nn :=
  ⟨h.lst.below hb, h.far, (hb.block _ (Array.getElem?_eq_some_iff.1 h.box).1).trans h.box, h.bel.trans (hb.mono h.bel.size)⟩
theorem MW.move (h : MW w wr l v P nn) (hl : Lst w' l v' P' nn') (hm : Moves wr (feet l v) w' (feet l v')) : MW w w' l v' P' nn' := by
  have hlt := (Array.getElem?_eq_some_iff.1 h.box).1
  refine ⟨hl, hm.low h.far (by omega), (hm.only.block _ hlt (fun e => by have := h.far _ e; omega)).trans h.box, h.bel.trans (hm.below (fun k hk => by have := h.far k hk; omega) h.bel.size)⟩
end
def ManyRel (w : World) (l s k : Nat) (at_ i : Value) (wr : World) : Prop :=
  ∃ (j : Nat) (v : Value) (nn : Nat), j ≤ k ∧ at_ = .int .i64 (atN s j : Nat) ∧ i = .int .i64 (j : Nat) ∧ nn ≤ j ∧ MW w wr l v (many s j) nn
theorem le_ways {a b : ByteArray} (h : Op.bytesLess b.toList a.toList = false) : (Op.bytesLess a.toList b.toList = true ∧ (a.toList == b.toList) = false) ∨ (Op.bytesLess a.toList b.toList = false ∧ (a.toList == b.toList) = true) := by
  cases e : Op.bytesLess a.toList b.toList with
  | true =>
    refine .inl ⟨rfl, ?_⟩
    cases e2 : (a.toList == b.toList) with
    | false => rfl
    | true =>
      have e' : a.toList = b.toList := by simpa using e2
      rw [e', bl_irr] at e; cases e
  | false => exact .inr ⟨rfl, by rw [bl_tri _ _ e h]; simp⟩
theorem ret_many {n : Nat} {w W : World} {tmps : Array Value} {v : Bool} {D : Nat} {R : Ending → World → Prop} (ht : tmps[4]? = some (.pointer (some ⟨w.heap.size, 0, none⟩))) (hK : W.heap[D]? = some (.deferred (some []))) (hc : W.cell? ⟨w.heap.size, 0, none⟩ = some (.bool v)) (hR : R (.returned (.bool v)) (W.putObj D (.deferred none))) :
    bodyPostM Fence.wide n Try.prog Try.f5 R Exit.ret { tmps := tmps, defers := [{ target := .collected D, args := #[] }] } W := by
  refine ⟨by simp, .inl ⟨_, _, rfl, run_takeDeferred hK, ⟨.bool v, ?_, hR⟩⟩⟩
  have hres := Try.results5
  have hc5 := cell_kept hc (grownBy_putObj' _ D (.deferred none)) (fun r e => by cases e; exact ⟨_, hK, rfl⟩)
  simp [results, hres, go_sem, ht, hc5]
def lastK (pre : List Pr) : ByteArray := ((pre.getLast?).map (·.1)).getD ⟨#[]⟩
structure ManyI (w wr : World) (pre : List Pr) (W : World) : Prop where
  last : W.heap[wr.heap.size]? = some (.cells #[.string (lastK pre)] 9 (0, 0))
  num : W.heap[wr.heap.size + 1]? = some (.cells #[.int .i64 (pre.length : Nat)] 3 (0, 0))
  box : W.heap[w.heap.size]? = some (.cells #[.bool false] 4 (0, 0))
  own : OwnUp pre
theorem ManyI.kept {w wr A B : World} {pre : List Pr} (h : ManyI w wr pre A) (hk : ∀ (k : Nat) (c : Array Value) (t : TypeId), A.heap[k]? = some (Obj.cells c t (0, 0)) → B.heap[k]? = A.heap[k]?) : ManyI w wr pre B :=
  ⟨(hk _ _ _ h.last).trans h.last, (hk _ _ _ h.num).trans h.num, (hk _ _ _ h.box).trans h.box, h.own⟩
theorem ManyI.kept' {w wr A B : World} {pre : List Pr} (h : ManyI w wr pre A) (hk : ∀ k, wr.heap.size ≤ k ∨ k = w.heap.size → k < A.heap.size → B.heap[k]? = A.heap[k]?) : ManyI w wr pre B :=
  ⟨(hk _ (.inl (Nat.le_refl _)) (Array.getElem?_eq_some_iff.1 h.last).1).trans h.last, (hk _ (.inl (by omega)) (Array.getElem?_eq_some_iff.1 h.num).1).trans h.num, (hk _ (.inr rfl) (Array.getElem?_eq_some_iff.1 h.box).1).trans h.box, h.own⟩
theorem grown_cells {A B : World} {row : Option Nat} (hg : A.grownBy B row) (hr : ∀ r, row = some r → ∃ o : Obj, A.heap[r]? = some o ∧ o.isCells = false) {k : Nat} {c : Array Value} {t : TypeId} {f : Nat × Nat} (hc : A.heap[k]? = some (.cells c t f)) : B.heap[k]? = A.heap[k]? :=
  hg.block k (Array.getElem?_eq_some_iff.1 hc).1 (fun e => by
    obtain ⟨o, h1, h2⟩ := hr k e.symm
    rw [hc] at h1; injection h1 with h1; subst h1; cases h2)
theorem Only.cellIn {fp : List Nat} {w W : World} (h : Only fp w W) {g : Nat} (hg : g ∈ fp) (j : Nat) (x : Value) : Only fp w (W.setCell ⟨g, j, none⟩ x) :=
  ((Moves.mk h (fun k hk => Or.inl hk : ∀ k ∈ fp, k ∈ fp ∨ w.heap.size ≤ k)).cell (.inr hg) j x).only
theorem lastK_snoc (pre : List Pr) (x : Pr) : lastK (pre ++ [x]) = x.1 := by simp [lastK]
/-- a round that goes on -/
theorem many_on {w wr w7 W W' : World} {l : Nat} {v : Value} {ss : Ls} {bytes : Int} {pre : List Pr} {x : Pr} {y : Int} (hN : w.heap.size < wr.heap.size) (hflt : ∀ k ∈ feet l v, k < wr.heap.size)
    (h : ManyI w wr pre W ∧ Only (w.heap.size :: wr.heap.size :: (wr.heap.size + 1) :: feet l v) w7 W ∧ ∃ st, SkAt W l v ss bytes st) (ho : OwnUp (pre ++ [x])) (hy : y = ((pre.length + 1 : Nat) : Int))
    (hW : W' = ((W.setCell ⟨wr.heap.size, 0, none⟩ (.string x.1)).setCell ⟨wr.heap.size + 1, 0, none⟩ (.int .i64 y)).drew ∨ W' = ((W.setCell ⟨wr.heap.size + 1, 0, none⟩ (.int .i64 y)).setCell ⟨wr.heap.size, 0, none⟩ (.string x.1)).drew) :
    KeepsOthers W W' ∧ KpL (wr.heap.size + 1 + 1) (wr.heap.size + 1 + 1 + 1) l v W W' ∧ (ManyI w wr (pre ++ [x]) W' ∧ Only (w.heap.size :: wr.heap.size :: (wr.heap.size + 1) :: feet l v) w7 W' ∧ ∃ st, SkAt W' l v ss bytes st) := by
  obtain ⟨hi, hon, st, hS⟩ := h
  subst hy
  have key : KeepsOthers W W' ∧ (∀ k, k ≠ wr.heap.size → k ≠ wr.heap.size + 1 → W'.heap[k]? = W.heap[k]?) ∧ W'.heap[wr.heap.size]? = some (.cells #[.string x.1] 9 (0, 0)) ∧ W'.heap[wr.heap.size + 1]? = some (.cells #[.int .i64 ((pre.length + 1 : Nat) : Int)] 3 (0, 0)) ∧ Only (w.heap.size :: wr.heap.size :: (wr.heap.size + 1) :: feet l v) w7 W' := by
    rcases hW with rfl | rfl
    · refine ⟨((KeepsOthers.setCell _ _ _).trans (KeepsOthers.setCell _ _ _)).trans (KeepsOthers.drew _), fun k h1 h2 => (Below.heap_setCell _ _ _ _ h2).trans (Below.heap_setCell _ _ _ _ h1), ?_, ?_, ((hon.cellIn (by simp) 0 _).cellIn (by simp) 0 _).onTo (Nat.le_refl _) (below_drew _ _)⟩
      · refine (Below.heap_setCell _ _ _ _ (by simp)).trans ?_
        have := heap_set hi.last 0 (.string x.1)
        simpa using this
      · have := heap_set ((Below.heap_setCell W ⟨wr.heap.size, 0, none⟩ (.string x.1) (wr.heap.size + 1) (by simp)).trans hi.num) 0 (.int .i64 ((pre.length + 1 : Nat) : Int))
        simp at this ⊢
        exact this
    · refine ⟨((KeepsOthers.setCell _ _ _).trans (KeepsOthers.setCell _ _ _)).trans (KeepsOthers.drew _), fun k h1 h2 => (Below.heap_setCell _ _ _ _ h1).trans (Below.heap_setCell _ _ _ _ h2), ?_, ?_, ((hon.cellIn (by simp) 0 _).cellIn (by simp) 0 _).onTo (Nat.le_refl _) (below_drew _ _)⟩
      · have := heap_set ((Below.heap_setCell W ⟨wr.heap.size + 1, 0, none⟩ (.int .i64 ((pre.length + 1 : Nat) : Int)) wr.heap.size (by simp)).trans hi.last) 0 (.string x.1)
        simp at this ⊢
        exact this
      · refine (Below.heap_setCell _ _ _ _ (by simp)).trans ?_
        have := heap_set hi.num 0 (.int .i64 ((pre.length + 1 : Nat) : Int))
        simpa using this
  obtain ⟨k1, k2, k3, k4, k5⟩ := key
  refine ⟨k1, ⟨k2 _ (by omega) (by omega), k2 _ (by omega) (by omega), fun k hk => k2 k (by have := hflt k hk; omega) (by have := hflt k hk; omega)⟩, ⟨by rw [lastK_snoc]; exact k3, by rw [List.length_append]; exact k4, (k2 _ (by omega) (by omega)).trans hi.box, ho⟩, k5, st, hS.kept (fun k hk => k2 k (by have := hflt k hk; omega) (by have := hflt k hk; omega))⟩
set_option maxRecDepth 100000 in
set_option maxHeartbeats 4000000 in
theorem many_in (n : Nat) (hn : 4 ≤ n) (a b : Nat) (ha : a < 65536) (hb : b < 65536) (w : World) :
    CallsIn Fence.wide n Try.prog 5 #[.int .u16 a, .int .u16 b] w fun e W' => e = .returned (.bool true) ∧ Below w.heap.size w W' := by
  have h1 : 1 ≤ n := by omega
  obtain ⟨k, hk⟩ : ∃ k, k = a % 1000 := ⟨_, rfl⟩
  obtain ⟨s, hs⟩ : ∃ s, s = 2 * (b % 300) + 1 := ⟨_, rfl⟩
  have hkI : (a : Int) % 1000 = (k : Int) := by omega
  have hsI : 2 * ((b : Int) % 300) + 1 = (s : Int) := by omega
  have hk3 : k < 1000 := by omega
  have hs3 : s ≤ 599 := by omega
  have HS : Hid (s % 2 = 1) := by rw [Hid]; omega
  clear hk hs
  have htb := two_bytes
  refine callsIn_of_wp_marks Try.func5 rfl trivial ?_ rfl
  simp only [Try.ntmps5, List.size_toArray, List.length_cons, List.length_nil, Nat.reduceAdd, Nat.reduceSub, Array.replicate_succ, Array.replicate_zero, List.push_toArray, List.append_toArray, List.nil_append, List.cons_append]
  gi_wp2_with (first
    | (refine ⟨trivial, ?_⟩; gi_at_call 7; refine (callsIn_wide.2 (awake_any _)).mono ?_; rintro e w1 ⟨rfl, b1⟩)
    | (refine ⟨trivial, ?_⟩; gi_at_call 9; refine (callsIn_wide.2 (new_any _)).mono ?_; rintro e w2 ⟨rfl, h2, b2⟩; have H2 := Lib.hid (And.intro h2 b2); clear h2 b2))
  have hA : Below w.heap.size w (w.alloc (.cells #[.bool false] 4)) := (Below.refl _ w).alloc (Nat.le_refl _) _
  have M0 : Hid (MW w w2 w1.heap.size (.slice none 0 0) [] 0) := by
    have s1 := b1.size
    simp at s1
    refine ⟨H2.out.1, fun k hk => ?_, ?_, (hA.trans (b1.mono (by simp))).trans (H2.out.2.mono (by omega))⟩
    · simp [feet, Value.ownBlock] at hk; omega
    · exact (H2.out.2.block _ (by omega)).trans ((b1.block _ (by simp)).trans (heap_alloc_new w _))
  gi_loopw [7, 29] (ManyRel w w1.heap.size s k) (fun _ i _ => k - (intOf i).toNat)
  case atStart => exact ⟨0, _, 0, by omega, by simp [atN], rfl, by omega, M0.out⟩
  case round =>
    obtain ⟨j, v, nn, hj, rfl, rfl, hnn, M⟩ := hrel
    have HM := Lib.hid M
    clear M M0
    by_cases hlt : j < k
    · have hat := atN_lt s j
      have hsu := Lib.hid (atN_succ s j)
      generalize atN s j = x at *
      gi_wp2
      have hkey : (⟨#[UInt8.ofNat ((x + s) % 1024 / 256), UInt8.ofNat ((x + s) % 256)]⟩ : ByteArray) = key2 ((x + s) % 1024) := by
        unfold key2; rw [show (x + s) % 1024 % 256 = (x + s) % 256 by omega]
      rw [hkey]
      have hksz := key2_size ((x + s) % 1024)
      have HKZ : Hid ((key2 ((x + s) % 1024)).size ≤ 1099511627776) := by rw [Hid, hksz]; decide
      have HMN : Hid (many s (j + 1) = putL (many s j) (key2 ((x + s) % 1024)) (key2 ((x + s) % 1024))) := by
        rw [Hid, show many s (j + 1) = putL (many s j) (key2 (atN s (j + 1))) (key2 (atN s (j + 1))) from rfl, hsu.out]
      clear hkey hksz htb
      have HA := Lib.hid (HM.out.on ((Below.refl _ wr).alloc (Nat.le_refl _) (.cells #[.int .u8 (((x : Int) + s) % 1024 / 256), .int .u8 (((x : Int) + s) % 256)] 5)))
      generalize key2 ((x + s) % 1024) = kk at *
      gi_loop [11, 12] (fun h jj => ∃ p q : Nat, 1 ≤ q ∧ p + q ≤ 1002 ∧ h = .int .i64 (p : Nat) ∧ jj = .int .i64 (q : Nat)) (fun _ jj => (intOf jj).toNat)
      case atStart => exact ⟨1, j + 1, by omega, by omega, rfl, by go_num⟩
      case round =>
        obtain ⟨p, q, hq1, hpq, rfl, rfl⟩ := hrel
        by_cases hev : q % 2 = 0
        · have hqe : ((q : Int) % 2 == 0) = true := by simp; omega
          gi_wp2
          exact ⟨⟨p + 1, q / 2, by omega, by omega, by go_num, congrArg (Value.int .i64) (by omega)⟩, by simp [intOf]; omega⟩
        · have hqe : ((q : Int) % 2 == 0) = false := by simp; omega
          gi_wp2_with (first
            | (refine ⟨trivial, ?_⟩; gi_at_call 10; refine (callsIn_wide.2 (putL_any HA.out.lst kk kk HKZ.out HKZ.out _ (by omega))).mono ?_; rintro e w6 ⟨rfl, v', nn', hL, hn', hM'⟩; have HB := Lib.hid (HA.out.move hL hM'); clear hL hM'))
          exact ⟨⟨j + 1, v', nn', by omega, congrArg (Value.int .i64) (by rw [hsu.out]; omega), by go_num, by omega, by rw [HMN.out]; exact HB.out⟩, by simp [intOf]; omega⟩
    · obtain rfl : j = k := by omega
      have ML := Lib.hid (many_len HS.out j (by omega))
      have hsrt : Hid (Srt (many s j)) := by
        obtain ⟨ss, _, _, h1', h2', _⟩ := HM.out.lst
        rw [Hid, ← h2']; exact pairs_srt h1'.ok
      have HO := Lib.hid (many_own hsrt.out)
      generalize many s j = P0 at *
      clear htb
      gi_wp2_with (first
        | (refine ⟨trivial, ?_⟩; gi_at_call 23; refine (callsIn_wide.2 (from_any _ _ ⟨#[]⟩)).mono ?_; rintro e w7 ⟨rfl, hE⟩; have E7 := Lib.hid hE; clear hE))
      obtain ⟨ss, bytes, st0, hS0, rfl, hnn0⟩ := HM.out.lst
      have hbx : Below wr.heap.size wr ((wr.alloc (.cells #[.string ⟨#[]⟩] 9)).alloc (.cells #[.int .i64 0] 3)) := ((Below.refl _ wr).alloc (Nat.le_refl _) _).alloc (by simp) _
      have hCap := cap_of (hS0.below hbx) ⟨#[]⟩
      rw [← E7.out] at hCap
      have hT := from_turns (n - 1) (by omega) hCap
      rw [from_is hS0.ok, upL_all] at hT
      have hb7 : Below wr.heap.size wr w7 := by rw [E7.out]; exact (hbx.alloc (by first | (simp; done) | (simp; omega)) _).alloc (by first | (simp; done) | (simp; omega)) _
      have hs7 : w7.heap.size = wr.heap.size + 4 := by rw [E7.out]; simp
      have hl7 : w7.heap[wr.heap.size]? = some (.cells #[.string ⟨#[]⟩] 9 (0, 0)) := by
        rw [E7.out]
        exact (Below.heap_alloc _ _ _ (by first | (simp; done) | (simp; omega))).trans ((Below.heap_alloc _ _ _ (by first | (simp; done) | (simp; omega))).trans ((Below.heap_alloc _ _ _ (by simp)).trans (heap_alloc_new wr _)))
      have hm7 : w7.heap[wr.heap.size + 1]? = some (.cells #[.int .i64 0] 3 (0, 0)) := by
        rw [E7.out]
        refine (Below.heap_alloc _ _ _ (by first | (simp; done) | (simp; omega))).trans ((Below.heap_alloc _ _ _ (by simp)).trans ?_)
        have := heap_alloc_new (wr.alloc (.cells #[.string ⟨#[]⟩] 9)) (.cells #[.int .i64 0] 3)
        rw [World.size_alloc] at this
        exact this
      have M7 := Lib.hid (HM.out.on hb7)
      have hfar := HM.out.far
      have hflt := hS0.lt
      have hN : w.heap.size < wr.heap.size := (Array.getElem?_eq_some_iff.1 HM.out.box).1
      simp only [World.size_alloc] at hT hCap
      refine range_turns rfl h1 (gf := 31) (lb := #[.pointer (some ⟨wr.heap.size + 1 + 1, 0, none⟩), .pointer (some ⟨wr.heap.size + 1 + 1 + 1, 0, none⟩)]) rfl trivial (enters_of Try.func31 (by kernel_rfl) rfl) hT (fp := feet w1.heap.size v) (fun k hk => by have := hflt k hk; omega) (fun _ _ h => h.1) (fun h k => h.t k)
        (fun W lq o o' hl ho hc hw => ?kb) (Below.refl _ _) (fun _ => rfl)
        (fun pre W => ManyI w wr pre W ∧ Only (w.heap.size :: wr.heap.size :: (wr.heap.size + 1) :: feet w1.heap.size v) w7 W ∧ ∃ st, SkAt W w1.heap.size v ss bytes st)
        (fun cd pre W => (cd = .ret ∧ ¬ OwnUp pre) ∧ Only (w.heap.size :: wr.heap.size :: (wr.heap.size + 1) :: feet w1.heap.size v) w7 W)
        ?hI ?hIx ?hIT ⟨⟨hl7, hm7, M7.out.box, ⟨List.Pairwise.nil, fun x hx => by cases hx⟩⟩, Only.refl _ _, st0, hS0.below hb7⟩
        (fun x => { tmps := #[.int .u16 a, .int .u16 b, undef, undef, .pointer (some ⟨w.heap.size, 0, none⟩), .int .i64 (j : Nat), .pointer (some ⟨w1.heap.size, 0, none⟩), .int .i64 (atN s j : Nat), .int .i64 (s : Nat), u9, u10, u11, u12, .pointer (some ⟨wr.heap.size, 0, none⟩), .pointer (some ⟨wr.heap.size + 1, 0, none⟩), .string x.1, .string x.2, .bool true, .bool false, .int .u16 a, .int .u16 (j : Nat), .int .i64 (j : Nat), .pointer (some ⟨w1.heap.size, 0, none⟩), .int .u16 b, .int .u16 ((b : Int) % 300), .int .i64 ((b : Int) % 300), .int .i64 (2 * ((b : Int) % 300)), .int .i64 (s : Nat), .int .i64 (j : Nat), .int .i64 (j : Nat), .bool false, u31, u32, u33, u34, u35, u36, u37, u38, u39, u40, u41, u42, u43, u44, u45, u46, u47, u48, u49, u50, u51, u52, u53, u54, u55, u56, u57, u58, .pointer (some ⟨w1.heap.size, 0, none⟩), .func (.func 31) #[] #[.pointer (some ⟨wr.heap.size + 1 + 1, 0, none⟩), .pointer (some ⟨wr.heap.size + 1 + 1 + 1, 0, none⟩)], .string x.1, .string x.2, undef, undef, undef, undef, undef, undef, undef, undef, undef, undef, undef, undef, undef, undef, undef, undef, undef, undef, undef, undef, undef, undef, undef, undef, undef, undef, undef, undef, undef, undef, undef], defers := [] }) ?assign ?body ?done ?stop
      case kb =>
        refine ⟨World.putObj_heap_other ?_, World.putObj_heap_other ?_, fun k hk => World.putObj_heap_other ?_⟩
        · omega
        · omega
        · have := hflt k hk; omega
      case hI =>
        intro s' A B row hs' hg hr
        obtain ⟨hi, ho, st', hS'⟩ := hs'
        have hb' : Below w7.heap.size A B := (Below.refl _ A).grown hg ho.size (fun k e => (hr k e).1)
        exact ⟨hi.kept (fun k c t hc => grown_cells hg (fun r e => (hr r e).2) hc), ho.onTo (Nat.le_refl _) hb', st', hS'.kept (fun k hk => hb'.block k (by have := hflt k hk; omega))⟩
      case hIx =>
        intro cd s' A B row hs' hg hr
        have hb' : Below w7.heap.size A B := (Below.refl _ A).grown hg hs'.2.size (fun k e => (hr k e).1)
        exact ⟨hs'.1, hs'.2.onTo (Nat.le_refl _) hb'⟩
      case hIT =>
        rintro pre A B ⟨hi, ho, st', hS'⟩ ht
        have hno : ∀ k, wr.heap.size ≤ k ∨ k = w.heap.size → k ∉ feet w1.heap.size v := fun k hk hm => by
          have h1' := hflt k hm
          have h2' := hfar k hm
          omega
        exact ⟨hi.kept' (fun k hk hlt => ht.1.block k hlt (hno k hk)), ho.trans (ht.1.widen (fun k hk => by simp [hk])), ht.2 st' hS'⟩
      case assign =>
        intro l' x W K hK
        gi_wp2
        exact hK
      case body =>
        rintro l' pre x W ⟨hi, ho, st', hS'⟩ hlen
        have hlen2 : pre.length ≤ 1000 := by have := ML.out.1; omega
        have c0 := cell_in hi.last 0 (.string (lastK pre)) rfl
        have c1 := cell_in hi.num 0 (.int .i64 (pre.length : Nat)) rfl
        have c2 := cell_in hi.box 0 (.bool false) rfl
        have f0 := free_in hi.last 0
        have f1 := free_in hi.num 0
        have f2 := free_in hi.box 0
        have hmx : Try.prog.follows .mixedOrders = true := by kernel_rfl
        have hNw : w.heap.size < wr.heap.size := hN
        have HI := Lib.hid (And.intro hi (And.intro ho (⟨st', hS'⟩ : ∃ st, SkAt W w1.heap.size v ss bytes st)))
        clear hi ho hS'
        by_cases hx : x.2 = x.1
        · have hxe : (x.1.toList == x.2.toList) = true := by rw [hx]; simp
          rcases List.eq_nil_or_concat pre with rfl | ⟨r, y, rfl⟩
          · have hz : ¬ (0 : Int) < (([] : List Pr).length : Int) := by simp
            gi_wp2
            gi_region_with_o (fail)
            all_goals gi_wp2
            all_goals exact many_on hN hflt HI.out (own_snoc HI.out.1.own hx (fun y hy => by simp at hy)) (by rfl) (by first | exact .inl rfl | exact .inr rfl)
          · have hlk : lastK (r.concat y) = y.1 := by simp [lastK]
            have hz : (0 : Int) < ((r.concat y).length : Int) := by simp
            rw [hlk] at c0
            cases hl : lt y.1 x.1 with
            | true =>
              have hl1 : Op.bytesLess y.1.toList x.1.toList = true := hl
              have hl2 : Op.bytesLess x.1.toList y.1.toList = false := lt_anti hl
              have hl3 : (x.1.toList == y.1.toList) = false := by
                cases e : (x.1.toList == y.1.toList) with
                | false => rfl
                | true =>
                  have e' : x.1 = y.1 := list_inj (by simpa using e)
                  rw [e', lt_irr] at hl; cases hl
              have HOS := Lib.hid (own_snoc (x := x) HI.out.1.own hx (fun z hz' => by simp at hz'; subst hz'; exact hl))
              clear hl hlk
              generalize r.concat y = pre at *
              gi_wp2
              gi_region_with_o (fail)
              all_goals gi_wp2
              all_goals exact many_on (y := IntKind.i64.wrap (((pre.length : Nat) : Int) + 1)) hN hflt HI.out HOS.out (by rw [IntWalk.i64_in _ (by omega)]; omega) (by first | exact .inl rfl | exact .inr rfl)
            | false =>
              have hl1 : Op.bytesLess y.1.toList x.1.toList = false := hl
              have HNO : Hid (¬ OwnUp (r.concat y ++ [x])) := fun h => by
                have := (own_snoc_inv h).2 y (by simp)
                rw [hl] at this; cases this
              clear hl hlk
              rcases le_ways hl1 with ⟨hl2, hl3⟩ | ⟨hl2, hl3⟩
              all_goals
                generalize r.concat y = pre at *
                gi_wp2
                exact ⟨KeepsOthers.setCell _ _ _, ⟨rfl, HNO.out⟩, HI.out.2.1.cellIn (by simp) 0 _⟩
        · have hxe : (x.1.toList == x.2.toList) = false := by
            cases e : (x.1.toList == x.2.toList) with
            | false => rfl
            | true =>
              have e' : x.1 = x.2 := list_inj (by simpa using e)
              exact absurd e'.symm hx
          have HNO : Hid (¬ OwnUp (pre ++ [x])) := fun h => hx (own_snoc_inv h).1
          rcases List.eq_nil_or_concat pre with rfl | ⟨r, y, rfl⟩
          · have hz : ¬ (0 : Int) < (([] : List Pr).length : Int) := by simp
            gi_wp2
            all_goals exact ⟨KeepsOthers.setCell _ _ _, ⟨rfl, HNO.out⟩, HI.out.2.1.cellIn (by simp) 0 _⟩
          · have hlk : lastK (r.concat y) = y.1 := by simp [lastK]
            have hz : (0 : Int) < ((r.concat y).length : Int) := by simp
            rw [hlk] at c0
            clear hlk
            cases hl : Op.bytesLess y.1.toList x.1.toList with
            | true =>
              have hl2 : Op.bytesLess x.1.toList y.1.toList = false := lt_anti hl
              have hl3 : (x.1.toList == y.1.toList) = false := by
                cases e : (x.1.toList == y.1.toList) with
                | false => rfl
                | true =>
                  have e' : x.1.toList = y.1.toList := by simpa using e
                  rw [e', bl_irr] at hl; cases hl
              generalize r.concat y = pre at *
              gi_wp2
              all_goals exact ⟨KeepsOthers.setCell _ _ _, ⟨rfl, HNO.out⟩, HI.out.2.1.cellIn (by simp) 0 _⟩
            | false =>
              rcases le_ways hl with ⟨hl2, hl3⟩ | ⟨hl2, hl3⟩
              all_goals
                generalize r.concat y = pre at *
                gi_wp2
                exact ⟨KeepsOthers.setCell _ _ _, ⟨rfl, HNO.out⟩, HI.out.2.1.cellIn (by simp) 0 _⟩
      case done =>
        rintro D ys W hD rfl ⟨hi, ho, st', hS'⟩ hK
        have hLst : Lst W w1.heap.size v (pairs ss) ss.n := ⟨ss, bytes, st', hS', rfl, rfl⟩
        have c1 := cell_in hi.num 0 (.int .i64 ((pairs ss).length : Nat)) rfl
        have c2 := cell_in hi.box 0 (.bool false) rfl
        have f2 := free_in hi.box 0
        have HL := Lib.hid (lenL_any hLst)
        have HB := Lib.hid (bytesL_any hLst)
        rw [ML.out.1] at c1 HL
        rw [ML.out.2] at HB
        have hjB : Hid (((4 * j : Nat) : Int) = 4 * (j : Int)) := by rw [Hid]; omega
        rw [hjB.out] at HB
        gi_wp2_with (first
          | (refine ⟨trivial, ?_⟩; gi_at_call 15; refine (callsIn_wide.2 HL.out).mono ?_; rintro e w8 ⟨rfl, rfl⟩)
          | (refine ⟨trivial, ?_⟩; gi_at_call 16; refine (callsIn_wide.2 HB.out).mono ?_; rintro e w9 ⟨rfl, rfl⟩))
        have hK7 := (KeepsOthers.setCell W ⟨w.heap.size, 0, none⟩ (.bool true)).same D _ hK rfl
        have hB7 : Below w.heap.size w7 W := ⟨ho.os, ho.tape, ho.output, ho.size, fun k hk => ho.block k (by omega) (fun hm => by
          simp only [List.mem_cons] at hm
          rcases hm with h | h | h | h
          · omega
          · omega
          · omega
          · have := hfar k h; omega)⟩
        have hB := M7.out.bel.trans hB7
        refine ret_many rfl hK7 (World.cell?_setCell_same' _ _ _ (by rw [c2]; rfl)) ⟨rfl, ?_⟩
        exact (hB.setCell (p := ⟨w.heap.size, 0, none⟩) (by simp) _).trans (belowK_b (w := w) (Nat.le_refl _) _ D _ _ (by omega) hK7 rfl rfl)
      case stop =>
        rintro D cd pre W hD hpre ⟨⟨rfl, hn'⟩, ho⟩ hK
        exact absurd (own_prefix HO.out hpre) hn'
end Go.Proofs.Ytfbfclejegajpaa.Sk
