/-
  The law FrameTurns, walked where something is turned. Conditions: as each theorem states.
-/
import Derived.Test.YtindchneeflgfaaFrQ
import Derived.Test.YtindchneeflgfaaFrTurn
namespace Go.Proofs.Ytindchneeflgfaa.frameTurns
open Go.RowKit Go.Shelf
open Go.Proofs.Ytindchneeflgfaa
open Vi
variable {w : World}

attribute [local go_sem] Oper.semAt_some

theorem ends_last (l : List (List UInt8)) (h : l ≠ []) (hi : l.length - 1 < (endsOf [] l).length) : (endsOf [] l)[l.length - 1] = (logOf [] l).length := by
  obtain ⟨l1, s1, rfl⟩ : ∃ l1 s1, l = l1 ++ [s1] := ⟨l.dropLast, l.getLast h, (List.dropLast_concat_getLast h).symm⟩
  have e : endsOf [] (l1 ++ [s1]) = endsOf [] l1 ++ [(logOf [] (l1 ++ [s1])).length] := by rw [endsOf_snoc, logOf_snoc, List.length_append]
  have e2 : (endsOf [] (l1 ++ [s1]))[(l1 ++ [s1]).length - 1]? = some (logOf [] (l1 ++ [s1])).length := by
    rw [e, List.getElem?_append_right (by rw [ends_len]; simp)]
    simp [ends_len]
  rw [List.getElem?_eq_getElem hi] at e2
  exact Option.some.inj e2
theorem turn_at (at_ : Int) (D : Nat) (hD : 0 < D) (hD2 : D ≤ 1000000) : ∃ m : Nat, wrap64 ((IntKind.u64.wrap at_).tmod (D : Int)) = (m : Int) ∧ m < D := by
  obtain ⟨k, hk, hl⟩ := cut_at at_ (D - 1) (by omega)
  rw [show ((D - 1 : Nat) : Int) + 1 = D by omega] at hk
  exact ⟨k, hk, by omega⟩
theorem conv_bytes (w : World) (s : ByteArray) : ∃ cap w', (convert 9 39 (.string s)).run Try.prog w = .ok (.slice (some ⟨w.heap.size, 0, none⟩) s.size cap) w' ∧ s.size ≤ cap ∧ w'.heap.size = w.heap.size + 1 ∧ Below w.heap.size w w' ∧
    (∀ j (hj : j < s.size), w'.cell? ⟨w.heap.size, j, none⟩ = some (.int .u8 (s[j].toNat : Int))) ∧ (∀ j, j < s.size → w'.frozen? ⟨w.heap.size, j, none⟩ = false) := by
  refine ⟨_, _, run_bytes_of_string w _ _ 5 s Try.underlying9 Try.underlying39 Try.underlying5, grownCap_ge _ _ _ _, by simp, (Below.refl _ w).drew.alloc (Nat.le_refl _) _, fun j hj => ?_, fun j hj => ?_⟩
  · exact (World.cell?_alloc_mark w.drew _ _ _ j).trans (bytesRow_at s _ j hj)
  · have h := heap_alloc_new w.drew (.cells (bytesRow s (grownCap w s.size 0 5)) 5 ((bytesRow s (grownCap w s.size 0 5)).size, (bytesRow s (grownCap w s.size 0 5)).size + 1))
    have h2 : j < (bytesRow s (grownCap w s.size 0 5)).size := (Array.getElem?_eq_some_iff.1 (bytesRow_at s (grownCap w s.size 0 5) j hj)).1
    unfold World.frozen?
    rw [show w.heap.size = w.drew.heap.size from rfl, h]
    simp; omega
/-- What the law has laid: the log G of l0 and of s, the place where s begins, the turned one's place behind that. -/
structure Laid (l l0 : List (List UInt8)) (s G : List UInt8) (a N : Nat) : Prop where
  le : l = l0 ++ [s]
  log : logOf [] l = G
  form : G = logOf [] l0 ++ lay (logOf [] l0).length s
  at_ : (logOf [] l0).length = a
  len : G.length = N
  bd : N ≤ 100000
  lt : a < N
theorem laid_of {l : List (List UInt8)} (h1 : 1 ≤ l.length) (h10 : l.length ≤ 10) (hs : ∀ s ∈ l, s.length ≤ 400) : ∃ l0 s G a N, Laid l l0 s G a N := by
  have h0 : l ≠ [] := fun h => by rw [h] at h1; simp at h1
  have e : l = l.dropLast ++ [l.getLast h0] := (List.dropLast_concat_getLast h0).symm
  have hGl := logOf_len l [] (fun s h => Nat.le_trans (hs s h) (by decide))
  have hf : logOf [] l = logOf [] l.dropLast ++ lay (logOf [] l.dropLast).length (l.getLast h0) := by
    conv => lhs; rw [e]
    rw [logOf_snoc]
  refine ⟨_, _, _, _, _, e, rfl, hf, rfl, rfl, by simp at hGl; omega, ?_⟩
  rw [hf, List.length_append, lay_len]
  omega
theorem ends_at {l l0 : List (List UInt8)} {s G : List UInt8} {a N : Nat} (h : Laid l l0 s G a N) (h2 : 2 ≤ l.length) (hi : l.length - 2 < (endsOf [] l).length) : (endsOf [] l)[l.length - 2] = a := by
  have hl0 : l0.length + 1 = l.length := by rw [h.le]; simp
  have h0 : l0 ≠ [] := fun e => by rw [e] at hl0; simp at hl0; omega
  have h3 := ends_last l0 h0 (by rw [ends_len]; omega)
  have e : endsOf [] l = endsOf [] l0 ++ [(logOf [] l0).length + (lay (logOf [] l0).length s).length] := by rw [h.le, endsOf_snoc]
  have e2 : (endsOf [] l)[l.length - 2]? = some a := by
    rw [e, List.getElem?_append_left (by rw [ends_len]; omega), show l.length - 2 = l0.length - 1 by omega, List.getElem?_eq_getElem (by rw [ends_len]; omega), h3, h.at_]
  rw [List.getElem?_eq_getElem hi] at e2
  exact Option.some.inj e2
theorem pre1_snoc {l0 : List (List UInt8)} {pre : List RecX} {x : RecX} (h : pre.map (·.1) <+: l0) (hm : pre.length < l0.length) (hx : l0[pre.length] = x.1) : (pre ++ [x]).map (·.1) <+: l0 := by
  obtain ⟨r, rfl⟩ := h
  match r with
  | [] => simp at hm
  | y :: r =>
    have hy : y = x.1 := by
      rw [← hx, List.getElem_append_right (by simp)]
      simp
    subst hy
    exact ⟨r, by simp⟩
theorem pre1_at {l0 : List (List UInt8)} {pre : List RecX} {x : RecX} (h : (pre ++ [x]).map (·.1) <+: l0) : ∃ hm : pre.length < l0.length, l0[pre.length] = x.1 := by
  obtain ⟨r, rfl⟩ := h
  exact ⟨by simp, by simp⟩
theorem pre1_zip {l0 : List (List UInt8)} {es : List Nat} {pre : List RecX} (h : pre <+: l0.zip es) : pre.map (·.1) <+: l0 := by
  obtain ⟨r, hr⟩ := h
  have h1 : (l0.zip es).map (·.1) <+: l0 := by
    have : (l0.zip es).map (·.1) = l0.take es.length := by
      clear hr
      induction l0 generalizing es with
      | nil => simp
      | cons a l ih => cases es with
        | nil => simp
        | cons e es => simp [ih]
    rw [this]; exact List.take_prefix _ _
  rw [← hr, List.map_append] at h1
  exact (List.prefix_append _ _).trans h1
theorem starts_bd (n : Nat) : ∀ (r : List UInt8) (p : Nat) (b : Bool), r.length + (if roomOf p = 0 then 1 else 0) ≤ n → ∀ q ∈ starts p r, q + 7 ≤ p + (layAt p b r).length := by
  induction n with
  | zero =>
    intro r p b h q hq
    rw [starts_last (by omega)] at hq
    rw [layAt_last (by omega)]
    simp only [List.mem_cons, List.not_mem_nil, or_false] at hq
    subst hq
    rw [List.length_append, List.length_replicate, pce_len]; omega
  | succ n ih =>
    intro r p b h q hq
    by_cases hr : r.length ≤ roomOf p
    · rw [starts_last hr] at hq
      rw [layAt_last hr]
      simp only [List.mem_cons, List.not_mem_nil, or_false] at hq
      subst hq
      rw [List.length_append, List.length_replicate, pce_len]; omega
    · rw [starts_more (by omega)] at hq
      have htl : (r.take (roomOf p)).length = roomOf p := by rw [List.length_take]; omega
      rw [layAt_more (p := p) (b := b) (r := r) (by omega)]
      obtain ⟨A, hA⟩ : ∃ A, A = List.replicate (gapOf p) (0 : UInt8) ++ pce (kindOf b false) (r.take (roomOf p)) := ⟨_, rfl⟩
      have hAl : A.length = gapOf p + (7 + roomOf p) := by rw [hA, List.length_append, List.length_replicate, pce_len, htl]
      rw [← hA, List.length_append]
      rcases List.mem_cons.1 hq with rfl | hq
      · omega
      · have hz : (p + A.length) % 512 = 0 := by rw [hAl]; have := next_block p; rw [show p + (gapOf p + (7 + roomOf p)) = p + gapOf p + 7 + roomOf p by omega]; exact this
        have := ih (r.drop (roomOf p)) (p + A.length) true (by
          rw [room_block hz, List.length_drop]
          by_cases h0 : roomOf p = 0
          · simp [h0] at h ⊢; omega
          · simp [h0] at h ⊢; omega) q (by rw [show p + A.length = p + gapOf p + 7 + roomOf p by omega]; exact hq)
        omega
theorem starts_len {a : Nat} {s : List UInt8} (n : Nat) : ∀ (r : List UInt8) (p : Nat), r.length + (if roomOf p = 0 then 1 else 0) ≤ n → (starts p r).length ≤ n + 1 := by
  induction n with
  | zero => intro r p h; rw [starts_last (by omega)]; simp
  | succ n ih =>
    intro r p h
    by_cases hr : r.length ≤ roomOf p
    · rw [starts_last hr]; simp
    · rw [starts_more (by omega), List.length_cons]
      have := ih (r.drop (roomOf p)) (p + gapOf p + 7 + roomOf p) (by
        rw [room_block (next_block p), List.length_drop]
        by_cases h0 : roomOf p = 0
        · simp [h0] at h ⊢; omega
        · simp [h0] at h ⊢; omega)
      omega
theorem starts_zero (p : Nat) (r : List UInt8) : ∃ h : 0 < (starts p r).length, (starts p r)[0] = p + gapOf p := by
  by_cases hr : r.length ≤ roomOf p
  · have e := starts_last hr
    exact ⟨by rw [e]; simp, by simp [e]⟩
  · have e := starts_more (p := p) (r := r) (by omega)
    exact ⟨by rw [e]; simp, by simp [e]⟩
/-- A place that the law passes over. -/
def Struck (j K q : Nat) : Prop := (j = 0 ∧ K < q) ∨ K = q + 4 ∨ K = q + 5 ∨ K = q + 6
set_option maxRecDepth 100000 in
set_option maxHeartbeats 4000000 in
theorem two_in (n : Nat) (hn : 4 ≤ n) (A : Option Addr) (c : Nat) (l l0 : List (List UInt8)) (s G : List UInt8) (a N : Nat) (HL : Hid (Laid l l0 s G a N)) (h2 : 2 ≤ l.length) (hl : l.length ≤ 10) (RA : Hid (SRow w A l)) (hs : ∀ s ∈ l, s.length ≤ 400) (at_ : Int) (tv : Nat) (htv : tv < 256) (ht0 : 0 < tv) :
    CallsIn Fence.wide n Try.prog 5 #[.slice A l.length c, .int .i64 at_, .int .u8 tv] w fun e W' => e = .returned (.bool true) ∧ Below w.heap.size w W' := by
  have hbz := bs_size
  have hte : ((tv : Int) == 0) = false := by simp; omega
  have HS := Lib.hid hs
  have HS2 : Hid (∀ s ∈ l, s.length ≤ 2000) := fun s h => Nat.le_trans (hs s h) (by decide)
  have hel : Hid ((endsOf [] l).length = l.length) := ends_len l []
  have haN := HL.out.lt
  have hNb := HL.out.bd
  have hGN : (bs G).size = N := by rw [bs_size]; exact HL.out.len
  clear hs
  have h1 : 1 ≤ n := by omega
  have b1 : (0 : Int) ≤ (l.length : Int) - 2 := by omega
  have b2 : (l.length : Int) - 2 < (l.length : Int) := by omega
  have b3 : ((l.length : Int) - 2).toNat = l.length - 2 := by omega
  refine callsIn_of_wp_marks Try.func5 rfl trivial ?_ rfl
  simp only [Try.ntmps5, List.size_toArray, List.length_cons, List.length_nil, Nat.reduceAdd, Nat.reduceSub, Array.replicate_succ, Array.replicate_zero, List.push_toArray, List.append_toArray, List.nil_append, List.cons_append]
  gi_wp2_with (first | (refine ⟨trivial, ?_⟩; gi_at_call 6; refine (callsIn_wide.2 (awake_any _)).mono ?_; rintro e w1 ⟨rfl, hb1⟩; have B1 := bx_on (bx_start w A c l.length) hb1; obtain ⟨hc0, hc1, hf1⟩ := bx_cells B1))
  have RA1 := on_below (on_below RA (((Below.refl _ w).alloc (Nat.le_refl _) (.cells #[.slice A l.length c] 35)).alloc (by simp) (.cells #[.bool false] 4))) hb1
  gi_loop [34] (fun i => ∃ j : Nat, j ≤ l.length ∧ i = .int .i64 j) (fun i => l.length - (intOf i).toNat)
  case atStart => exact ⟨0, by omega, rfl⟩
  case round =>
    obtain ⟨j, hj, rfl⟩ := hrel
    by_cases hjk : j < l.length
    · obtain ⟨a, rfl, hab, hca⟩ := RA1.out (by omega)
      have x0 := hca j hjk
      have hs := HS.out l[j] (List.getElem_mem hjk)
      clear hca
      generalize l[j] = s at x0 hs
      gi_wp2
      exact ⟨⟨j + 1, by omega, by go_num⟩, by simp [intOf]; omega⟩
    · have LD : Hid (∀ W, SRow W A l → Calls Try.prog 13 #[.slice A l.length c] W fun e w' => (∃ v, e = .returned (.tuple #[.string (bs G), v]) ∧ w'.ownsRow W.heap.size 3 1 v l.length (eCells (endsOf [] l))) ∧ Below W.heap.size W w') := fun W hW => by
        have := laid_any A c l (by omega) HS2.out hW
        rw [HL.out.log] at this
        exact this
      have HPC : Hid (∀ W, Calls Try.prog 14 #[.string (bs G), .int .i64 (a : Int)] W fun e w' => (∃ v, e = .returned v ∧ w'.ownsRow W.heap.size 3 1 v (starts a s).length (eCells (starts a s))) ∧ Below W.heap.size W w') := fun W => by
        have := pieces_any G (by rw [HL.out.len]; omega) (logOf [] l0) s HL.out.form W
        rw [HL.out.at_] at this
        exact this
      obtain ⟨m, hwm, hmN⟩ := turn_at at_ (N - a) (by omega) (by omega)
      rw [show ((N - a : Nat) : Int) = (N : Int) - (a : Int) by omega] at hwm
      obtain ⟨K, hK, hKe⟩ : ∃ K : Nat, (a : Int) + (m : Int) = (K : Int) ∧ K = a + m := ⟨a + m, by omega, rfl⟩
      have HKe := Lib.hid hKe
      have hKN : K < N := by omega
      clear hKe
      gi_wp2_with (first
        | (refine ⟨trivial, ?_⟩; gi_at_call 13; (with_reducible refine (callsIn_wide.2 (LD.out _ RA1.out)).mono ?_); rintro e w2 ⟨⟨v, rfl, hown⟩, hb2⟩; obtain ⟨E, cap, rfl, hE⟩ := owns_ints hel.out hown; have HEr := Lib.hid hE; clear hE hown; have B2 := bx_on B1 hb2; have RA2 := on_below RA1 hb2; obtain ⟨d0, d1, f1⟩ := bx_cells B2; obtain ⟨bcap, w3, hrun, hbc, hz3, hb3, hcell3, hfree3⟩ := conv_bytes w2 (bs G); rw [hGN] at hrun hbc; have HC3 := Lib.hid hcell3; have HF3 := Lib.hid hfree3; have HZ3 := Lib.hid hz3; clear hcell3 hfree3 hz3; obtain ⟨ea, rfl, _, hec⟩ := HEr.out (by omega); have e0 := hec (l.length - 2) (by rw [hel.out]; omega); rw [ends_at HL.out (by omega)] at e0; clear hec)
        | (refine ⟨trivial, ?_⟩; gi_at_call 14; (with_reducible refine (callsIn_wide.2 (HPC.out _)).mono ?_); rintro e w4 ⟨⟨v, rfl, hown⟩, hb4⟩; obtain ⟨Q, qcap, rfl, hQ⟩ := owns_ints rfl hown; have HQr := Lib.hid hQ; clear hQ hown))
      have HST : Hid (∀ q ∈ starts a s, q + 7 ≤ N) := fun q hq => by
        have h := starts_bd _ s a false (Nat.le_refl _) q hq
        rw [← lay_layAt] at h
        have h5 : G.length = a + (lay a s).length := by rw [← HL.out.at_, ← List.length_append, ← HL.out.form]
        rw [HL.out.len] at h5
        omega
      have hSL : (starts a s).length ≤ 1000000 := by
        have h1 := starts_len (a := a) (s := s) _ s a (Nat.le_refl _)
        have h2 := HS.out s (by rw [HL.out.le]; simp)
        have h3 : (if roomOf a = 0 then 1 else 0) ≤ 1 := by split <;> omega
        omega
      obtain ⟨ST, hSTe⟩ : ∃ ST, ST = starts a s := ⟨_, rfl⟩
      have HSTe := Lib.hid hSTe
      rw [← hSTe] at HST hSL HQr ⊢
      clear hSTe HPC LD hwm hK hrun
      have B3 := bx_on B2 hb3
      have B4 := bx_on B3 hb4
      obtain ⟨k0, k1, kf1⟩ := bx_cells B4
      gi_loop [73] (fun i => ∃ j : Nat, j ≤ ST.length ∧ i = .int .i64 j ∧ ∀ i (h : i < ST.length), i < j → ¬ Struck i K ST[i]) (fun i => ST.length - (intOf i).toNat)
      case atStart => exact ⟨0, by omega, rfl, fun i _ h => by omega⟩
      case round =>
        obtain ⟨i, hi, rfl, hno⟩ := hrel
        have HNO := Lib.hid hno
        clear hno
        by_cases hil : i < ST.length
        · obtain ⟨qa, rfl, hqb, hqc⟩ := HQr.out (by omega)
          have x0 := hqc i hil
          have hq7 := HST.out ST[i] (List.getElem_mem hil)
          have hnext : Hid (¬ Struck i K ST[i] → ∀ i' (h : i' < ST.length), i' < i + 1 → ¬ Struck i' K ST[i']) := fun h i' h' hlt => by
            by_cases e : i' = i
            · subst e; exact h
            · exact HNO.out i' h' (by omega)
          generalize ST[i] = q at *
          clear hqc
          gi_wp2
          all_goals first
            | (refine ret_box rfl (World.cell?_setCell_same' _ _ _ (by rw [k1]; rfl)) ⟨rfl, B4.out.2.2.setCell (p := ⟨w.heap.size + 1, 0, none⟩) (by simp) _⟩)
            | (rename_i hlast; have h6 : ¬ (K : Int) = (q : Int) + 6 := by simpa using hlast.2
               exact ⟨⟨i + 1, by omega, val_int (by omega), hnext.out (by unfold Struck; omega)⟩, by simp [intOf]; omega⟩)
        · obtain rfl : i = ST.length := by omega
          have hgm : gapOf a ≤ m := by
            obtain ⟨z0, z1⟩ := starts_zero a s
            rw [← HSTe.out] at z0
            have h := HNO.out 0 z0 z0
            have e : ST[0] = a + gapOf a := by rw [← z1]; simp only [HSTe.out]
            rw [e] at h
            have h5 := HKe.out
            unfold Struck at h
            omega
          have hqm : ∀ q ∈ starts a s, a + m ≠ q + 4 ∧ a + m ≠ q + 5 ∧ a + m ≠ q + 6 := fun q hq => by
            rw [← HSTe.out] at hq
            obtain ⟨i, hi, rfl⟩ := List.getElem_of_mem hq
            have h := HNO.out i hi hi
            have h5 := HKe.out
            unfold Struck at h
            omega
          obtain ⟨ev, hev, hev0⟩ : ∃ ev : UInt8, ev.toNat = tv ∧ ev ≠ 0 := ⟨UInt8.ofNat tv, by rw [UInt8.toNat_ofNat']; omega, fun h => by
            have := congrArg UInt8.toNat h
            rw [UInt8.toNat_ofNat'] at this
            simp at this; omega⟩
          have HTR : Hid (recs (turn G K ev) 0 = l0.zip (endsOf [] l0)) := by
            have h5 := HL.out.at_
            have h6 : turn G K ev = logOf [] l0 ++ turn (lay (logOf [] l0).length s) m ev := by
              rw [HL.out.form, turn_right (by rw [h5, HKe.out]; omega), h5, HKe.out, Nat.add_sub_cancel_left]
            rw [h6]
            refine recs_turned l0 s hev0 ?_ (by rw [h5]; exact hgm) (by rw [h5]; exact hqm)
            have h7 : G.length = a + (lay a s).length := by rw [← HL.out.at_, ← List.length_append, ← HL.out.form]
            rw [HL.out.len] at h7
            rw [h5]; omega
          have HTL : Hid ((turn G K ev).length = N) := by rw [turn_len]; exact HL.out.len
          have hKG : K < (bs G).size := by rw [hGN]; exact hKN
          have g3 : w2.heap.size < w3.heap.size := by rw [HZ3.out]; omega
          have c5 : w4.cell? ⟨w2.heap.size, K, none⟩ = some (.int .u8 ((bs G)[K].toNat : Int)) := (hb4.cell (p := ⟨w2.heap.size, K, none⟩) g3).trans (HC3.out K hKG)
          have f5 : w4.frozen? ⟨w2.heap.size, K, none⟩ = false := (hb4.frozen (p := ⟨w2.heap.size, K, none⟩) g3).trans (HF3.out K hKG)
          obtain ⟨xv, hxr, hx2⟩ : ∃ xv : UInt8, bits .xor .u8 ((bs G)[K].toNat : Int) (tv : Int) = (xv.toNat : Int) ∧ xv = (bs G)[K] ^^^ ev := ⟨(bs G)[K] ^^^ ev, by
            rw [← hev, u8_xor_nat _ _ (UInt8.toNat_lt _) (UInt8.toNat_lt _), UInt8.toNat_xor], rfl⟩
          have HXV := Lib.hid hx2
          clear hx2 hev
          have hcv : ∀ W : World, (∀ q, q < N → W.cell? ⟨w2.heap.size, q, none⟩ = (w4.setCell ⟨w2.heap.size, K, none⟩ (.int .u8 (xv.toNat : Int))).cell? ⟨w2.heap.size, q, none⟩) → (convert 39 9 (.slice (some ⟨w2.heap.size, 0, none⟩) N bcap)).run Try.prog W = .ok (.string (bs (turn G K ev))) W := fun W hW => by
            have h := run_convert_bytes_back (P := Try.prog) W 39 9 5 ⟨w2.heap.size, 0, none⟩ bcap (turn G K ev) Try.underlying39 Try.underlying5 Try.underlying9 (fun q hq => by
              have hq' : q < N := by rw [← HTL.out]; exact hq
              have hadd : (⟨w2.heap.size, 0, none⟩ : Addr).add q = ⟨w2.heap.size, q, none⟩ := by unfold Addr.add; split <;> simp_all
              rw [hadd, hW q hq']
              have hqG : q < G.length := by rw [HL.out.len]; exact hq'
              by_cases e : q = K
              · subst e
                rw [World.cell?_setCell_same _ _ _ c5, HXV.out]
                simp [turn, List.getElem_modify]
                rfl
              · rw [World.cell?_setCell_other _ _ _ _ (by intro e1; injection e1 with _ e2 _; omega), hb4.cell (p := ⟨w2.heap.size, q, none⟩) g3, HC3.out q (by rw [hGN]; exact hq')]
                simp [turn, List.getElem_modify, Ne.symm e]
                rfl)
            rw [HTL.out] at h
            exact h
          obtain ⟨w5, hw5⟩ : ∃ w5, w5 = w4.setCell ⟨w2.heap.size, K, none⟩ (.int .u8 (xv.toNat : Int)) := ⟨_, rfl⟩
          have hz5 : w5.heap.size = w4.heap.size := by rw [hw5]; simp
          have g4 : w2.heap.size < w4.heap.size := Nat.lt_of_lt_of_le g3 hb4.size
          have hcv5 := hcv (w5.alloc (.cells #[.int .i64 0] 3)) (fun q hq => by
            rw [← hw5]
            exact ((Below.refl w5.heap.size w5).alloc (Nat.le_refl _) _).cell (p := ⟨w2.heap.size, q, none⟩) (by rw [hz5]; exact g4))
          have HW5 := Lib.hid hw5
          have HB5 : Hid (Below w2.heap.size w2 w5) := by
            rw [hw5]; exact (hb3.trans (hb4.mono (Nat.le_of_lt g3))).setCell (Nat.le_refl _) _
          have hw5' := hw5.symm
          clear hw5 hcv
          have c50 : w5.cell? ⟨w.heap.size, 0, none⟩ = some (.slice A l.length c) := (HB5.out.cell (p := ⟨w.heap.size, 0, none⟩) (cell_lt d0)).trans d0
          gi_wp2_with (first
            | (refine ⟨trivial, ?_⟩; gi_at_call 11; refine (callsIn_wide.2 (records_any _ _)).mono ?_; rintro e w6 ⟨rfl, rfl⟩))
          have hz5' : Hid (w5.heap.size = w4.heap.size) := hz5
          have BXW := bx_on B2 HB5.out
          have BW := bx_on (bx_on BXW ((Below.refl _ w5).alloc (Nat.le_refl _) (.cells #[.int .i64 0] 3))) ((Below.refl _ _).alloc (Nat.le_refl _) (.cells #[.string (bs (turn G K ev))] 9))
          have RW := on_below (on_below (RA2.out.below HB5.out (Nat.le_refl _)) ((Below.refl _ w5).alloc (Nat.le_refl _) (.cells #[.int .i64 0] 3))) ((Below.refl _ _).alloc (Nat.le_refl _) (.cells #[.string (bs (turn G K ev))] 9))
          have hbox : ((w5.alloc (.cells #[.int .i64 0] 3)).alloc (.cells #[.string (bs (turn G K ev))] 9)).heap[w4.heap.size + 1]? = some (.cells #[.string (bs (turn G K ev))] 9) := by
            have := heap_alloc_last (w5.alloc (.cells #[.int .i64 0] 3)) (.cells #[.string (bs (turn G K ev))] 9)
            rw [World.size_alloc, hz5'.out] at this
            exact this
          have hn0 : ((w5.alloc (.cells #[.int .i64 0] 3)).alloc (.cells #[.string (bs (turn G K ev))] 9)).heap[w4.heap.size]? = some (.cells #[.int .i64 0] 3) := (Below.heap_alloc _ _ _ (by rw [World.size_alloc, hz5'.out]; omega)).trans (by
            have := heap_alloc_last w5 (.cells #[.int .i64 0] 3)
            rw [hz5'.out] at this
            exact this)
          have hsW : ((w5.alloc (.cells #[.int .i64 0] 3)).alloc (.cells #[.string (bs (turn G K ev))] 9)).heap.size = w4.heap.size + 2 := by rw [World.size_alloc, World.size_alloc, hz5'.out]
          have F6 := cell_in hn0 0 _ rfl
          have F6f := free_in hn0 0
          obtain ⟨F1, F2, F2f⟩ := bx_cells BW
          have hl2 := B2.out.lt
          have hl4 : w2.heap.size < w4.heap.size := g4
          have hl01 : l0.length + 1 = l.length := by rw [HL.out.le]; simp
          have F4 : Hid (∀ m (h : m < l0.length), ∃ a, A = some a ∧ ((w5.alloc (.cells #[.int .i64 0] 3)).alloc (.cells #[.string (bs (turn G K ev))] 9)).cell? (a.add m) = some (.string (bs l0[m])) ∧ (a.add m).block ≠ w4.heap.size) := fun m h => by
            obtain ⟨a, e, hlt, hc⟩ := RA2.out (by omega)
            obtain ⟨a', e', _, hc'⟩ := RW.out (by omega)
            rw [e] at e'; injection e' with e'; subst e'
            refine ⟨a, e, ?_, by rw [block_add]; omega⟩
            rw [hc' m (by omega)]
            have : l[m]'(by omega) = l0[m] := by simp only [HL.out.le, List.getElem_append_left h]
            rw [this]
          have hBW : Hid (Below w.heap.size w ((w5.alloc (.cells #[.int .i64 0] 3)).alloc (.cells #[.string (bs (turn G K ev))] 9))) := BW.out.2.2
          have HT6 : Hid ((turn G K ev).length ≤ 1000000) := by have := HTL.out; unfold Hid; omega
          generalize hW5 : ((w5.alloc (.cells #[.int .i64 0] 3)).alloc (.cells #[.string (bs (turn G K ev))] 9)) = W5 at *
          clear hcv5 hw5' hxr hW5
          refine wpIn_rangeFunc_ownF rfl h1 (gf := 24) (lb := #[.pointer (some ⟨w4.heap.size + 1, 0, none⟩)]) rfl trivial (enters_of Try.func24 (by kernel_rfl) rfl)
            (recs_stops (n - 1) (by omega) (w4.heap.size + 1) (turn G K ev) HT6.out _ hbox) keepB_t (keepB_b (by omega)) (Below.refl _ _) (fun _ => rfl)
            (fun pre W => (Keeps W5 w4.heap.size W ∧ W.cell? ⟨w4.heap.size, 0, none⟩ = some (.int .i64 (pre.length : Nat)) ∧ W.frozen? ⟨w4.heap.size, 0, none⟩ = false ∧ W.frozen? ⟨w.heap.size + 1, 0, none⟩ = false ∧ pre.map (·.1) <+: l0) ∧ Below w.heap.size w W)
            (fun cd pre W => (cd = .ret ∧ ¬ pre.map (·.1) <+: l0) ∧ Below w.heap.size w W)
            (OwnFrom.and (Own.from (fun s A B row hs hg hr => ⟨fun p v h hne => cell_kept (hs.1 p v h hne) hg hr, cell_kept hs.2.1 hg hr, (frozen_kept hs.2.1 hg hr).trans hs.2.2.1, (frozen_kept (hs.1 _ _ F2 (by show w.heap.size + 1 ≠ w4.heap.size; omega)) hg hr).trans hs.2.2.2.1, hs.2.2.2.2⟩) _) (ownFrom_below (Nat.le_refl _) (by omega)))
            (fun cd => OwnFrom.and (Own.from (fun s A B row hs hg hr => hs) _) (ownFrom_below (Nat.le_refl _) (by omega)))
            ⟨⟨fun p v h _ => h, F6, F6f, F2f, ⟨_, rfl⟩⟩, hBW.out⟩
            (fun x => { tmps := #[Value.slice A l.length c, Value.int IntKind.i64 at_, Value.int IntKind.u8 (tv : Int), Value.pointer (some ⟨w.heap.size, 0, none⟩), undef, undef, Value.pointer (some ⟨w.heap.size + 1, 0, none⟩), undef, u8, Value.string (bs G), Value.slice (some ea) l.length cap, Value.int IntKind.i64 (a : Int), Value.slice (some ⟨w2.heap.size, 0, none⟩) N bcap, Value.int IntKind.i64 (K : Int), u14, u15, Value.pointer (some ⟨w4.heap.size, 0, none⟩), .string (bs x.1), Value.bool true, Value.bool false, Value.slice A l.length c, Value.int IntKind.i64 (l.length : Int), Value.bool (decide ((l.length : Int) < 1)), Value.bool (decide ((l.length : Int) < 1)), Value.slice A l.length c, Value.int IntKind.i64 (l.length : Int), Value.bool (decide (10 < (l.length : Int))), Value.bool (decide ((l.length : Int) < 1) || decide (10 < (l.length : Int))), Value.bool (decide ((l.length : Int) < 1) || decide (10 < (l.length : Int))), Value.int IntKind.u8 (tv : Int), Value.bool false, Value.bool (decide ((l.length : Int) < 1) || decide (10 < (l.length : Int))), Value.slice A l.length c, Value.int IntKind.i64 (l.length : Int), Value.int IntKind.i64 (j : Int), Value.bool false, u36, u37, u38, u39, u40, u41, Value.tuple #[Value.string (bs G), Value.slice (some ea) l.length cap], Value.slice A l.length c, Value.tuple #[Value.string (bs G), Value.slice (some ea) l.length cap], Value.string (bs G), Value.slice (some ea) l.length cap, Value.slice A l.length c, Value.int IntKind.i64 (l.length : Int), Value.bool true, Value.slice (some ea) l.length cap, Value.slice A l.length c, Value.int IntKind.i64 (l.length : Int), Value.int IntKind.i64 ((l.length : Int) - 2), Value.pointer (some (ea.add (l.length - 2))), Value.int IntKind.i64 (a : Int), Value.string (bs G), Value.slice (some ⟨w2.heap.size, 0, none⟩) N bcap, Value.int IntKind.i64 (a : Int), Value.int IntKind.i64 at_, Value.int IntKind.u64 (IntKind.u64.wrap at_), Value.slice (some ⟨w2.heap.size, 0, none⟩) N bcap, Value.int IntKind.i64 (N : Int), Value.int IntKind.i64 (a : Int), Value.int IntKind.i64 ((N : Int) - (a : Int)), Value.int IntKind.u64 ((N : Int) - (a : Int)), Value.int IntKind.u64 ((IntKind.u64.wrap at_).tmod ((N : Int) - (a : Int))), Value.int IntKind.i64 (m : Int), Value.int IntKind.i64 (K : Int), Value.string (bs G), Value.int IntKind.i64 (a : Int), Value.slice Q ST.length qcap, Value.int IntKind.i64 (ST.length : Int), Value.int IntKind.i64 (ST.length : Int), Value.bool false, u75, u76, u77, u78, u79, u80, u81, u82, u83, u84, u85, u86, u87, u88, u89, u90, u91, u92, u93, u94, u95, u96, u97, u98, u99, u100, u101, u102, u103, Value.slice (some ⟨w2.heap.size, 0, none⟩) N bcap, Value.int IntKind.i64 (K : Int), Value.pointer (some ⟨w2.heap.size, K, none⟩), Value.int IntKind.u8 ((bs G)[K].toNat : Int), Value.int IntKind.u8 (tv : Int), Value.int IntKind.u8 (xv.toNat : Int), Value.pointer (some ⟨w2.heap.size, K, none⟩), Value.slice (some ⟨w2.heap.size, 0, none⟩) N bcap, Value.string (bs (turn G K ev)), Value.func (.func 24) #[] #[Value.pointer (some ⟨w4.heap.size + 1, 0, none⟩)], .string (bs x.1), .int .i64 (x.2 : Nat), undef, undef, undef, undef, undef, undef, undef, undef, undef, undef, undef, undef, undef, undef, undef, undef, undef, undef, undef, undef], defers := [] }) ?assign ?body ?done ?stop
          case assign =>
            intro l' x W K hK
            gi_wp2
            exact hK
          case body =>
            rintro l' pre x W ⟨⟨hk, hcn, hfn, hfr, hpre⟩, hB⟩ _
            have g1 := hk _ _ F1 (by show w.heap.size ≠ w4.heap.size; omega)
            have g2 := hk _ _ F2 (by show w.heap.size + 1 ≠ w4.heap.size; omega)
            have hpl := hpre.length_le
            rw [List.length_map] at hpl
            have hbl := bs_list
            have HPR := Lib.hid hpre
            clear hpre
            by_cases hm : pre.length < l0.length
            · obtain ⟨ar, rfl, hx, hxn⟩ := F4.out pre.length hm
              have y0 := hk _ _ hx hxn
              have hm2 : ¬ ((l.length : Int) - 1 ≤ (pre.length : Int)) := by omega
              by_cases e1 : x.1 = l0[pre.length]
              · have HP := Lib.hid (pre1_snoc (x := x) HPR.out hm e1.symm)
                have q1 : (x.1 == l0[pre.length]) = true := by rw [e1]; simp
                generalize l0[pre.length] = lm at y0 q1
                clear hx e1
                gi_wp2
                exact ⟨KeepsOthers.setCell _ _ _, Below.heap_setCell _ _ _ _ (by show w4.heap.size + 1 ≠ w4.heap.size; omega), ⟨fun p v h hne => (cell_other _ hne).trans (hk p v h hne), by
                  have hq := World.cell?_setCell_same' W ⟨w4.heap.size, 0, none⟩ (.int .i64 ((pre.length : Int) + 1)) (by rw [hcn]; rfl)
                  rw [hq]; simp, by rw [World.frozen?_setCell]; exact hfn, by rw [World.frozen?_setCell]; exact hfr, HP.out⟩, hB.setCell (p := ⟨w4.heap.size, 0, none⟩) (by show w.heap.size ≤ w4.heap.size; omega) _⟩
              · have HP : Hid (¬ (pre ++ [x]).map (·.1) <+: l0) := fun h => by
                  obtain ⟨_, h2'⟩ := pre1_at h
                  exact e1 h2'.symm
                have q1 : (x.1 == l0[pre.length]) = false := by simpa using e1
                generalize l0[pre.length] = lm at y0 q1
                clear hx e1
                gi_wp2
                exact ⟨KeepsOthers.setCell _ _ _, ⟨rfl, HP.out⟩, hB.setCell (p := ⟨w.heap.size + 1, 0, none⟩) (by simp) _⟩
            · have HP : Hid (¬ (pre ++ [x]).map (·.1) <+: l0) := fun h => by
                obtain ⟨h1', _⟩ := pre1_at h
                omega
              have hm2 : (l.length : Int) - 1 ≤ (pre.length : Int) := by omega
              gi_wp2
              exact ⟨KeepsOthers.setCell _ _ _, ⟨rfl, HP.out⟩, hB.setCell (p := ⟨w.heap.size + 1, 0, none⟩) (by simp) _⟩
          case done =>
            rintro D ys W hD rfl ⟨⟨hk, hcn, hfn, hfr, hpre⟩, hB⟩ hK
            have g1 := hk _ _ F1 (by show w.heap.size ≠ w4.heap.size; omega)
            have g2 := hk _ _ F2 (by show w.heap.size + 1 ≠ w4.heap.size; omega)
            have hyl : (recs (turn G K ev) 0).length = l0.length := by
              rw [HTR.out, List.length_zip, ends_len]; omega
            rw [hyl] at hcn
            have hq : ((l0.length : Int) == (l.length : Int) - 1) = true := by rw [beq_iff_eq]; omega
            clear hyl hpre
            gi_wp2
            have hK7 := (KeepsOthers.setCell W ⟨w.heap.size + 1, 0, none⟩ (.bool true)).same D _ hK rfl
            refine ret_box_d rfl hK7 (World.cell?_setCell_same' _ _ _ (by rw [g2]; rfl)) ⟨rfl, ?_⟩
            exact (hB.setCell (p := ⟨w.heap.size + 1, 0, none⟩) (by simp) _).trans (belowK_b (w := w) (Nat.le_refl _) _ D _ _ (by omega) hK7 rfl rfl)
          case stop =>
            rintro D cd pre W hD hpre ⟨⟨rfl, hn'⟩, hB⟩ hK
            rw [HTR.out] at hpre
            exact absurd (pre1_zip hpre) hn'
end Go.Proofs.Ytindchneeflgfaa.frameTurns
