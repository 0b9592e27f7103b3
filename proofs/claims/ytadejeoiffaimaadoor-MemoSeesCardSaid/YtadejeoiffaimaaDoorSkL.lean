/-
  The last key of a skip list, and the last one that isn't above a key: the Go text walked. Conditions: as each theorem states.
-/
import Derived.Test.YtadejeoiffaimaaDoorSkJ
namespace Go.Proofs.YtadejeoiffaimaaDoor.Sk
open Go.RowKit Go.Shelf

def LastJ (l : Nat) (v : Value) (s : Ls) (bytes : Int) (w : World) (a' : Act) (w' : World) : Prop :=
  ∃ (p lv : Nat) (u5 u6 u7 u8 u9 u10 u11 u12 u13 u14 u15 u16 u17 u18 u19 u20 u21 u22 u23 : Value), w = w' ∧ p ≤ s.n ∧ lv < 12 ∧ (p = 0 ∨ lv < s.H (atp s.S p)) ∧
    a' = { tmps := #[.pointer (some ⟨l, 0, none⟩), undef, .int .i32 0, .int .i32 (atp s.S p : Nat), .int .i64 (lv : Nat), u5, u6, u7, u8, u9, u10, u11, u12, u13, u14, u15, u16, u17, u18, u19, u20, u21, u22, u23], defers := [] }
def lastMu (s : Ls) (a' : Act) : Nat := (intOf (a'.tmps.getD 4 undef)).toNat * (s.n + 1) + (s.n - (0 :: s.S).idxOf (intOf (a'.tmps.getD 3 undef)).toNat)
theorem lastJ_mk {l : Nat} {v : Value} {s : Ls} {bytes : Int} {w : World} {p lv : Nat} {x y : Int} (hx : x = (atp s.S p : Nat)) (hy : y = (lv : Nat)) (hp : p ≤ s.n) (hlv : lv < 12) (hon : p = 0 ∨ lv < s.H (atp s.S p)) (u5 u6 u7 u8 u9 u10 u11 u12 u13 u14 u15 u16 u17 u18 u19 u20 u21 u22 u23 : Value) :
    LastJ l v s bytes w { tmps := #[.pointer (some ⟨l, 0, none⟩), undef, .int .i32 0, .int .i32 x, .int .i64 y, u5, u6, u7, u8, u9, u10, u11, u12, u13, u14, u15, u16, u17, u18, u19, u20, u21, u22, u23], defers := [] } w :=
  ⟨p, lv, u5, u6, u7, u8, u9, u10, u11, u12, u13, u14, u15, u16, u17, u18, u19, u20, u21, u22, u23, rfl, hp, hlv, hon, by rw [hx, hy]⟩
def LastPost (l : Nat) (v : Value) (s : Ls) (bytes : Int) (w : World) (e : Ending) (w' : World) : Prop :=
  e = .returned (.int .i32 (atp s.S s.n : Nat)) ∧ SkAt w' l v s bytes 0 ∧ Moves w (feet l v) w' (feet l v)
theorem last_end {s : Ls} (ok : Ok s) {p : Nat} (hp : p ≤ s.n) (h : ∀ i (h : i < s.S.length), p ≤ i → ¬ 0 < s.H s.S[i]) : p = s.n := by
  have hl := ok.len
  rcases Nat.lt_or_ge p s.n with h1 | h1
  · have := (ok.high _ (List.getElem_mem (show p < s.S.length by omega))).1
    exact absurd (by omega) (h p (by omega) (Nat.le_refl _))
  · omega
set_option maxRecDepth 100000 in
set_option maxHeartbeats 2000000 in
theorem last_any {w : World} {l : Nat} {v : Value} {s : Ls} {bytes steps : Int} (h : SkAt w l v s bytes steps) :
    Calls Tryd.prog 57 #[.pointer (some ⟨l, 0, none⟩)] w (LastPost l v s bytes w) := by
  obtain ⟨h0, hm0⟩ := h.steps_ 0
  have c14 := h.cell14
  have f14 := h.free 14
  have ok := h.ok
  have H0 := Lib.hid (And.intro h0 hm0)
  have hlen := ok.len
  have OK := Lib.hid ok
  clear h h0 hm0 ok
  go_enter Tryd.func57, Tryd.ntmps57
  go_wp2
  refine wp_scope_jumps 0 (LastJ l v s bytes (w.setCell ⟨l, 14, none⟩ (.int .i64 0))) (fun a' _ => lastMu s a') rfl ?_ ?_
  · go_wp2
    go_step3
    generalize w.setCell ⟨l, 14, none⟩ (.int .i64 0) = w1 at *
    obtain ⟨b, o, hN, hb, hL⟩ := next_any H0.out.1 0 (Nat.zero_le _)
    have hlk := OK.out.link 0 11 (Nat.zero_le _) (by decide) (.inl rfl)
    rw [atp_zero] at hlk
    have hl1 := (hL 11 (by decide)).1
    rw [hlk] at hl1
    have HN : Hid (Calls Tryd.prog 54 #[.pointer (some ⟨l, 0, none⟩), .int .i32 0] w1 fun e w' => e = .returned (.pointer (some ⟨b, o, none⟩)) ∧ w1 = w') := hN
    clear hN hL hlk
    rcases nxt_cases s.H s.S 11 s.S.length 0 (by omega) with ⟨g1, g2⟩ | ⟨j, hj, g1, g2, g3, g4⟩
    · rw [g1] at hl1
      clear g1 g2
      go_wp2_with (first | (go_at_call 54; (with_reducible refine (HN.out).mono ?_); rintro e w2 ⟨rfl, rfl⟩))
      go_step3
      exact ⟨rfl, lastJ_mk (p := 0) (lv := 10) rfl (by omega) (Nat.zero_le _) (by decide) (.inl rfl) _ _ _ _ _ _ _ _ _ _ _ _ _ _ _ _ _ _ _⟩
    · rw [g2] at hl1
      have hq := OK.out.mem _ (List.getElem_mem hj)
      have hq0 : ((s.S[j] : Int) != 0) = true := by simp; omega
      have HG := Lib.hid g3
      clear g2 g3 g4
      go_wp2_with (first | (go_at_call 54; (with_reducible refine (HN.out).mono ?_); rintro e w2 ⟨rfl, rfl⟩))
      go_step3
      exact ⟨rfl, lastJ_mk (p := j + 1) (lv := 11) (by rw [atp_succ hj]) rfl (by omega) (by decide) (.inr (by rw [atp_succ hj]; exact HG.out)) _ _ _ _ _ _ _ _ _ _ _ _ _ _ _ _ _ _ _⟩
  · rintro a' w1' ⟨p, lv, u5, u6, u7, u8, u9, u10, u11, u12, u13, u14, u15, u16, u17, u18, u19, u20, u21, u22, u23, rfl, hp, hlv, hon, rfl⟩
    generalize w.setCell ⟨l, 14, none⟩ (.int .i64 0) = w1 at *
    obtain ⟨b, o, hN, hb, hL⟩ := next_any H0.out.1 (atp s.S p) (atp_le OK.out hp)
    have hlk := OK.out.link p lv hp hlv hon
    have hl1 := (hL lv hlv).1
    rw [hlk] at hl1
    have HN := Lib.hid hN
    clear hN hL hlk
    rcases nxt_cases s.H s.S lv s.S.length p (by omega) with ⟨g1, g2⟩ | ⟨j, hj, g1, g2, g3, g4⟩
    · rw [g1] at hl1
      have G2 := Lib.hid g2
      clear g1 g2
      rcases Nat.eq_zero_or_pos lv with rfl | hpos
      · rw [Nat.add_zero] at hl1
        go_wp2_with (first | (go_at_call 54; (with_reducible refine (HN.out).mono ?_); rintro e w2 ⟨rfl, rfl⟩))
        simp only [Exit.jump]
        go_ret
        obtain rfl : p = s.n := last_end OK.out hp G2.out
        exact ⟨rfl, H0.out.1, H0.out.2⟩
      · go_wp2_with (first | (go_at_call 54; (with_reducible refine (HN.out).mono ?_); rintro e w2 ⟨rfl, rfl⟩))
        go_step3
        exact ⟨rfl, lastJ_mk (p := p) (lv := lv - 1) rfl (by omega) hp (by omega) (hon.imp id (fun h => by omega)) _ _ _ _ _ _ _ _ _ _ _ _ _ _ _ _ _ _ _, mu_down hpos⟩
    · rw [g2] at hl1
      have hq := OK.out.mem _ (List.getElem_mem hj)
      have hq0 : ((s.S[j] : Int) != 0) = true := by simp; omega
      have HG := Lib.hid (And.intro g3 (mu_adv (lv := lv) OK.out hj g1))
      clear g2 g3 g4
      go_wp2_with (first | (go_at_call 54; (with_reducible refine (HN.out).mono ?_); rintro e w2 ⟨rfl, rfl⟩))
      go_step3
      exact ⟨rfl, lastJ_mk (p := j + 1) (lv := lv) (by rw [atp_succ hj]) rfl (by omega) hlv (.inr (by rw [atp_succ hj]; exact HG.out.1)) _ _ _ _ _ _ _ _ _ _ _ _ _ _ _ _ _ _ _, HG.out.2⟩
/-- how many keys aren't above one (the empty one: all) -/
def upN (s : Ls) (k : ByteArray) : Nat := if k = ⟨#[]⟩ then s.n else if there s k = true then pos s k + 1 else pos s k
def UpPost (l : Nat) (v : Value) (s : Ls) (bytes : Int) (k : ByteArray) (w : World) (e : Ending) (w' : World) : Prop :=
  e = .returned (.int .i32 (atp s.S (upN s k) : Nat)) ∧ ∃ st, SkAt w' l v s bytes st ∧ Moves w (feet l v) w' (feet l v)
set_option maxRecDepth 100000 in
set_option maxHeartbeats 1000000 in
theorem upTo_any {w : World} {l : Nat} {v : Value} {s : Ls} {bytes steps : Int} (h : SkAt w l v s bytes steps) (k : ByteArray) :
    Calls Tryd.prog 49 #[.pointer (some ⟨l, 0, none⟩), .string k] w (UpPost l v s bytes k w) := by
  by_cases hk : k = ⟨#[]⟩
  · subst hk
    have e : upN s ⟨#[]⟩ = s.n := if_pos rfl
    have HH := Lib.hid h
    have HE := Lib.hid e
    clear h e
    go_enter Tryd.func49, Tryd.ntmps49
    go_wp2_with (first | (go_at_call 57; (with_reducible refine (last_any HH.out).mono ?_); rintro e w1 ⟨rfl, h1, m1⟩))
    go_ret
    exact ⟨by rw [HE.out]; rfl, 0, h1, m1⟩
  · have hkn : (k.toList == (⟨#[]⟩ : ByteArray).toList) = false := by
      cases e : (k.toList == (⟨#[]⟩ : ByteArray).toList) with
      | false => rfl
      | true => exact absurd (list_inj (by simpa using e)) hk
    have hke : k.toList.isEmpty = false := by
      cases e : k.toList with
      | nil => exact absurd (list_inj (by rw [e]; exact (ByteArray.toList_mk []).symm)) hk
      | cons _ _ => rfl
    obtain ⟨ah, hah⟩ : ∃ ah, prv s.H s.S (pos s k) = ah := ⟨_, rfl⟩
    obtain ⟨at_, hat⟩ : ∃ at_, nxt s.H s.S (pos s k) 0 = at_ := ⟨_, rfl⟩
    have hpl := pos_le' s k
    have hlen := h.ok.len
    have OK := Lib.hid h.ok
    have HA := Lib.hid (And.intro hah hat)
    have HH := Lib.hid h
    have HK := Lib.hid hk
    clear h hah hat hk
    cases ht : there s k with
    | true =>
      have HU : Hid (at_ = atp s.S (upN s k)) := by
        obtain ⟨hh, h2, _⟩ := there_yes OK.out ht
        rw [Hid, ← HA.out.2, h2, show upN s k = pos s k + 1 by unfold upN; rw [if_neg HK.out, if_pos ht], atp_succ hh]
      have HT := Lib.hid ht
      clear ht
      go_enter Tryd.func49, Tryd.ntmps49
      go_wp2_with (first
        | (go_at_call 38; (with_reducible refine (search_at HH.out k HA.out HT.out).mono ?_); rintro e w1 ⟨st, hst, rfl, hs1, hm1⟩; have HS1 := Lib.hid (And.intro hs1 hm1); clear hs1 hm1)
        | (with_reducible refine wpList_store_row (o := ⟨none, .store 74 (.tmp 5) (.tmp 12), _, _, _, _⟩) ?_ 74 (.tmp 5) (.tmp 12) ?_ w1.heap.size (spotCells ah at_ true st).toArray ?_ ?_ 74 _ (heap_alloc_new w1 _) (spot_info _ _ _ _) (spot_size _ _ _ _).symm (spot_one _ _ _ _) ?_
           · rfl
           · rfl
           · rfl
           · rfl
           obtain ⟨m1, m3, m4⟩ := spot_box (cs := (spotCells ah at_ true st).toArray) HS1.out.1 HS1.out.2
           generalize ((w1.alloc _).setRow _ _) = W at m1 m3 m4 ⊢
           have x12 := cell_in m1 12 (.int .i32 (at_ : Nat)) rfl
           have x13 := cell_in m1 13 (.bool true) rfl
           have HS := Lib.hid (And.intro m3 m4)
           clear m1 m3 m4))
      go_ret
      exact ⟨by rw [← HU.out]; rfl, st, HS.out.1, HS.out.2⟩
    | false =>
      have HU : Hid (ah 0 = atp s.S (upN s k)) := by
        rw [Hid, ← HA.out.1, prv_bottom OK.out (by omega), show upN s k = pos s k by unfold upN; rw [if_neg HK.out, if_neg (by rw [ht]; decide)]]
      have HT := Lib.hid ht
      clear ht
      go_enter Tryd.func49, Tryd.ntmps49
      go_wp2_with (first
        | (go_at_call 38; (with_reducible refine (search_at HH.out k HA.out HT.out).mono ?_); rintro e w1 ⟨st, hst, rfl, hs1, hm1⟩; have HS1 := Lib.hid (And.intro hs1 hm1); clear hs1 hm1)
        | (with_reducible refine wpList_store_row (o := ⟨none, .store 74 (.tmp 5) (.tmp 12), _, _, _, _⟩) ?_ 74 (.tmp 5) (.tmp 12) ?_ w1.heap.size (spotCells ah at_ false st).toArray ?_ ?_ 74 _ (heap_alloc_new w1 _) (spot_info _ _ _ _) (spot_size _ _ _ _).symm (spot_one _ _ _ _) ?_
           · rfl
           · rfl
           · rfl
           · rfl
           obtain ⟨m1, m3, m4⟩ := spot_box (cs := (spotCells ah at_ false st).toArray) HS1.out.1 HS1.out.2
           generalize ((w1.alloc _).setRow _ _) = W at m1 m3 m4 ⊢
           have x12 := cell_in m1 12 (.int .i32 (at_ : Nat)) rfl
           have x13 := cell_in m1 13 (.bool false) rfl
           have x0 := cell_in m1 0 (.int .i32 (ah 0 : Nat)) rfl
           have HS := Lib.hid (And.intro m3 m4)
           clear m1 m3 m4))
      go_ret
      exact ⟨by rw [← HU.out]; rfl, st, HS.out.1, HS.out.2⟩
/-- a key's own place -/
theorem pos_own {s : Ls} (ok : Ok s) {i : Nat} (hi : i < s.S.length) : pos s (s.K s.S[i]) = i := by
  have h1 := pos_le' s (s.K s.S[i])
  rcases Nat.lt_or_ge (pos s (s.K s.S[i])) i with h | h
  · have h2 := above_pos ok.sorted (s.K s.S[i]) (pos s (s.K s.S[i])) (by omega) (Nat.le_refl _)
    have h3 := (List.pairwise_iff_getElem.1 ok.sorted) _ i (by omega) hi h
    rw [h3] at h2; cases h2
  · rcases Nat.lt_or_ge i (pos s (s.K s.S[i])) with h' | h'
    · have := below_pos s (s.K s.S[i]) i hi h'
      rw [lt_irr] at this; cases this
    · omega
end Go.Proofs.YtadejeoiffaimaaDoor.Sk
