/-
  A skip list's keys, rising and falling, for those that go through them within a loop of their own: the Go text of the iterators walked. Conditions: as each theorem states.
-/
import Derived.Test.YtadejeoiffaimaaDoorSkM
import Derived.Test.YtadejeoiffaimaaDoorSkN
import Derived.Test.YtadejeoiffaimaaDoorRfX
namespace Go.Proofs.YtadejeoiffaimaaDoor.Sk
open Go.RowKit Go.Shelf
open Go.Proofs.YtadejeoiffaimaaDoor.Rf

attribute [local go_sem] Oper.semAt_some

set_option maxRecDepth 100000 in
set_option maxHeartbeats 2000000 in
theorem from_seq (n : Nat) (hn : 1 ≤ n) {bl bk l : Nat} {v : Value} {s : Ls} {bytes st : Int} {k : ByteArray} {w : World} (hC : CapL bl bk l v s bytes k st w) :
    SeqT Fence.wide n Tryd.prog 55 #[.pointer (some ⟨bl, 0, none⟩), .pointer (some ⟨bk, 0, none⟩)] encP (TnL l v s bytes) (KpL bl bk l v) (fromL s k) w := fun lp J Jx W hW hJ hJx hJT hY h0 => by
  have C1 := hC.below hW
  have hcl := cell_in C1.hbl 0 _ rfl
  have hck := cell_in C1.hbk 0 _ rfl
  have HC := Lib.hid C1
  obtain ⟨ah, hah⟩ : ∃ ah, prv s.H s.S (pos s k) = ah := ⟨_, rfl⟩
  obtain ⟨at_, hat⟩ : ∃ at_, nxt s.H s.S (pos s k) 0 = at_ := ⟨_, rfl⟩
  obtain ⟨th, hth⟩ : ∃ th, there s k = th := ⟨_, rfl⟩
  have HA := Lib.hid (And.intro hah hat)
  have HT := Lib.hid hth
  have hsp := spot_field1 ah at_ th
  clear C1 hah hat hth hC
  refine callsIn_of_wp Tryd.func55 rfl trivial ?_ rfl
  simp only [Tryd.ntmps55, List.size_toArray, List.length_cons, List.length_nil, Nat.reduceAdd, Nat.reduceSub, Array.replicate_succ, Array.replicate_zero, List.push_toArray, List.append_toArray, List.nil_append, List.cons_append]
  gi_wp2_with (first | (refine ⟨trivial, ?_⟩; gi_at_call 38; refine (callsIn_wide.2 (search_at HC.out.at_ k HA.out HT.out)).mono ?_; rintro e w1 ⟨st1, hst1, rfl, hs1, hm1⟩))
  have ok := HC.out.at_.ok
  have hpl := pos_le' s k
  have C1 := HC.out.moved hs1 hm1
  have J1 := hJT [] W w1 h0 (tn_of hm1 hs1)
  have hat : at_ = placeAt s (pos s k) := HA.out.2.symm
  have HJ0 : Hid (FromJ bl bk l v s bytes k J (.int .i32 (at_ : Nat)) w1) := ⟨pos s k, [], st1, hpl, by rw [hat], rfl, J1, C1⟩
  clear J1 C1 hs1 hm1 hat hpl
  have OK := Lib.hid ok
  clear ok hcl hck hsp
  gi_loopw [4] (FromJ bl bk l v s bytes k J) (fun t _ => fromMu s t)
  case atStart => exact HJ0.out
  case round =>
    obtain ⟨i, pre, sti, hi, rfl, hpre, hJs, C⟩ := hrel
    have hcl := cell_in C.hbl 0 (.pointer (some ⟨l, 0, none⟩)) rfl
    have HCi := Lib.hid C
    clear C HJ0
    by_cases hin : i < s.S.length
    · have hmem := List.getElem_mem hin
      obtain ⟨hq1, hq2⟩ := OK.out.mem _ hmem
      have hfew := HCi.out.at_.few
      have hdr := drop_pairs hin
      have hq0 : ((s.S[i] : Int) != 0) = true := by simp; omega
      have hmu := fromMu_in OK.out hin
      have hnx := fromMu_next OK.out hin
      rw [placeAt_in OK.out hin]
      have HP := Lib.hid (fun W (hW : SkAt W l v s bytes sti) => pair_any hW hmem)
      have HM := Lib.hid (And.intro hmu hnx)
      have HLN : ∀ x, Hid (x = (s.K s.S[i], s.V s.S[i]) → pre ++ [x] <+: fromL s k) := fun x hx => by subst hx; exact ⟨_, by rw [hpre, hdr, List.append_assoc]; rfl⟩
      have HPRE := Lib.hid (And.intro hpre hdr)
      clear hmu hnx hpre hdr
      gi_wp2_with (first | (refine ⟨trivial, ?_⟩; gi_at_call 50; refine (callsIn_wide.2 (HP.out _ HCi.out.at_)).mono ?_; rintro e w2 ⟨rfl, hb2⟩; have J2 := hJ _ _ _ none hJs (grown_below hb2 none) (fun r e => by cases e); have C2 := Lib.hid (HCi.out.below hb2); obtain ⟨fn, tmps, assign, body, hy, hR⟩ := hY pre (s.K s.S[i], s.V s.S[i]) w2 J2 ((HLN _).out rfl); dsimp only [encP] at hy))
      refine hR.mono ?_
      rintro e W3 (⟨rfl, hJ3, hk3, _⟩ | ⟨rfl, hJx3, _⟩)
      · have C3 := C2.out.kept hk3
        have hcl3 := cell_in C3.hbl 0 (.pointer (some ⟨l, 0, none⟩)) rfl
        obtain ⟨g, cap, hv, hgl, hcell⟩ := C3.at_.tower hq1 hq2
        have hc0 : Hid (W3.cell? ⟨l, 0, none⟩ = some (.slice (some ⟨g, 0, none⟩) s.n cap)) := by rw [Hid, C3.at_.cell0, hv]
        have hlk := OK.out.link (i + 1) 0 (by rw [← OK.out.len]; omega) (by decide) (.inr (by rw [atp_succ hin]; have := (OK.out.high _ hmem).1; omega))
        rw [atp_succ hin] at hlk
        have hnl := (hcell 3 (.int .i32 (placeAt s (i + 1) : Nat)) (by
          have := tw_link (s.K s.S[i]) (s.V s.S[i]) (s.H s.S[i]) (s.nx s.S[i]) (j := 0) (by decide)
          rw [hlk] at this; exact this)).1
        have H3 := Lib.hid C3
        clear C3 hcell hv hlk
        gi_wp2_with (first | (refine ⟨trivial, ?_⟩; gi_at_call 39; refine (callsIn_wide.2 (tower_any hc0.out hq1 hq2 hfew)).mono ?_; rintro e w5 ⟨rfl, rfl⟩))
        go_roundw
        case rel => exact ⟨i + 1, pre ++ [(s.K s.S[i], s.V s.S[i])], sti, by omega, rfl, by rw [HPRE.out.1, HPRE.out.2]; simp, hJ3, H3.out⟩
        case measure => rw [HM.out.1]; exact HM.out.2
      · gi_wp2
        go_end0
        exact ⟨⟨_, rfl⟩, .inr ⟨pre ++ [(s.K s.S[i], s.V s.S[i])], ⟨(pairs s).drop (i + 1), by rw [HPRE.out.1, HPRE.out.2]; simp⟩, hJx3⟩⟩
    · have hie : i = s.S.length := by omega
      have e0 : (Value.int .i32 ((placeAt s i : Nat) : Int)) = .int .i32 0 := by rw [placeAt_end (by omega)]; rfl
      rw [e0]
      clear e0
      gi_wp2
      refine ⟨trivial, ?_⟩
      gi_wp2
      refine ⟨fun _ h => (by cases h), ?_⟩
      gi_wp2
      go_end0
      exact ⟨⟨_, rfl⟩, .inl (by rw [hpre, hie, List.drop_of_length_le (by simp [pairs]), List.append_nil]; exact hJs)⟩
set_option maxRecDepth 100000 in
set_option maxHeartbeats 2000000 in
theorem down_seq (n : Nat) (hn : 1 ≤ n) {bl bk l : Nat} {v : Value} {s : Ls} {bytes st : Int} {k : ByteArray} {w : World} (hC : CapL bl bk l v s bytes k st w) :
    SeqT Fence.wide n Tryd.prog 48 #[.pointer (some ⟨bl, 0, none⟩), .pointer (some ⟨bk, 0, none⟩)] encP (TnL l v s bytes) (KpL bl bk l v) (downL s k) w := fun lp J Jx W hW hJ hJx hJT hY h0 => by
  have C1 := hC.below hW
  have hcl := cell_in C1.hbl 0 (.pointer (some ⟨l, 0, none⟩)) rfl
  have hck := cell_in C1.hbk 0 (.string k) rfl
  have HC := Lib.hid C1
  have hmx : Tryd.prog.follows .mixedOrders = true := by kernel_rfl
  clear C1 hC
  refine callsIn_of_wp Tryd.func48 rfl trivial ?_ rfl
  simp only [Tryd.ntmps48, List.size_toArray, List.length_cons, List.length_nil, Nat.reduceAdd, Nat.reduceSub, Array.replicate_succ, Array.replicate_zero, List.push_toArray, List.append_toArray, List.nil_append, List.cons_append]
  gi_wp2_with (first | (refine ⟨trivial, ?_⟩; gi_at_call 49; refine (callsIn_wide.2 (upTo_any HC.out.at_ k)).mono ?_; rintro e w1 ⟨rfl, st1, hs1, hm1⟩))
  have ok := HC.out.at_.ok
  have C1 := HC.out.moved hs1 hm1
  have J1 := hJT [] W w1 h0 (tn_of hm1 hs1)
  have HJ0 : Hid (DownJ bl bk l v s bytes k J (.int .i32 (atp s.S (upN s k) : Nat)) w1) := ⟨upN s k, [], st1, upN_le s ok k, rfl, rfl, J1, C1⟩
  clear J1 C1 hs1 hm1
  have OK := Lib.hid ok
  clear ok hcl hck
  gi_loopw [4] (DownJ bl bk l v s bytes k J) (fun t _ => downMu s t)
  case atStart => exact HJ0.out
  case round =>
    obtain ⟨i, pre, sti, hi, rfl, hpre, hJs, C⟩ := hrel
    have hcl := cell_in C.hbl 0 (.pointer (some ⟨l, 0, none⟩)) rfl
    have HCi := Lib.hid C
    have HM := Lib.hid (downMu_at OK.out hi)
    clear C HJ0
    match i, hi, hpre, HM with
    | i + 1, hi, hpre, HM =>
      have hin : i < s.S.length := by omega
      have hmem := List.getElem_mem hin
      obtain ⟨hq1, hq2⟩ := OK.out.mem _ hmem
      have hfew := HCi.out.at_.few
      have hdr := take_pairs hin
      have hq0 : ((s.S[i] : Int) != 0) = true := by simp; omega
      rw [atp_succ hin] at HM ⊢
      have HP := Lib.hid (fun W (hW : SkAt W l v s bytes sti) => pair_any hW hmem)
      have HLN : ∀ x, Hid (x = (s.K s.S[i], s.V s.S[i]) → pre ++ [x] <+: downL s k) := fun x hx => by subst hx; exact ⟨_, by rw [hpre, hdr, List.append_assoc]; rfl⟩
      have HPRE := Lib.hid (And.intro hpre hdr)
      clear hpre hdr
      gi_wp2_with (first | (refine ⟨trivial, ?_⟩; gi_at_call 50; refine (callsIn_wide.2 (HP.out _ HCi.out.at_)).mono ?_; rintro e w2 ⟨rfl, hb2⟩; have J2 := hJ _ _ _ none hJs (grown_below hb2 none) (fun r e => by cases e); have C2 := Lib.hid (HCi.out.below hb2); obtain ⟨fn, tmps, assign, body, hy, hR⟩ := hY pre (s.K s.S[i], s.V s.S[i]) w2 J2 ((HLN _).out rfl); dsimp only [encP] at hy))
      refine hR.mono ?_
      rintro e W3 (⟨rfl, hJ3, hk3, _⟩ | ⟨rfl, hJx3, _⟩)
      · have C3 := C2.out.kept hk3
        have hcl3 := cell_in C3.hbl 0 (.pointer (some ⟨l, 0, none⟩)) rfl
        obtain ⟨g, cap, hv, hgl, hcell⟩ := C3.at_.tower hq1 hq2
        have hc0 : Hid (W3.cell? ⟨l, 0, none⟩ = some (.slice (some ⟨g, 0, none⟩) s.n cap)) := by rw [Hid, C3.at_.cell0, hv]
        have hk0 := (hcell 0 (.string (s.K s.S[i])) rfl).1
        rw [Nat.add_zero] at hk0
        obtain ⟨ah, hah⟩ : ∃ ah, prv s.H s.S (pos s (s.K s.S[i])) = ah := ⟨_, rfl⟩
        obtain ⟨at_, hat⟩ : ∃ at_, nxt s.H s.S (pos s (s.K s.S[i])) 0 = at_ := ⟨_, rfl⟩
        obtain ⟨th, hth⟩ : ∃ th, there s (s.K s.S[i]) = th := ⟨_, rfl⟩
        have HA0 : Hid (ah 0 = atp s.S i) := by rw [Hid, ← hah, pos_own OK.out hin, prv_bottom OK.out (by rw [← OK.out.len]; omega)]
        have HA := Lib.hid (And.intro hah hat)
        have HT := Lib.hid hth
        have H3 := Lib.hid C3
        have H3d := Lib.hid (C3.at_.below (below_drew _ W3))
        have hf0 := spot_field0 ah at_ th
        have hl0 := links_first ah
        clear C3 hcell hv hah hat hth
        gi_wp2
        gi_region_with_o (first
          | (refine ⟨trivial, ?_⟩; gi_at_call 39; refine (callsIn_wide.2 (tower_any (by exact hc0.out) hq1 hq2 hfew)).mono ?_; rintro e w5 ⟨rfl, rfl⟩)
          | (refine ⟨trivial, ?_⟩; gi_at_call 38; refine (callsIn_wide.2 (search_at H3d.out _ HA.out HT.out)).mono ?_; rintro e w6 ⟨st6, hst6, rfl, hs6, hm6⟩; have H6 := Lib.hid (And.intro hs6 hm6); clear hs6 hm6))
        all_goals gi_wp2
        all_goals
          go_roundw
          case rel =>
            have hrel : DownJ bl bk l v s bytes k J (.int .i32 (ah 0 : Nat)) w6 := ⟨i, pre ++ [(s.K s.S[i], s.V s.S[i])], st6, by omega, by rw [HA0.out], by rw [HPRE.out.1, HPRE.out.2]; simp, hJT _ _ _ (hJ _ _ _ none hJ3 (grown_below (below_drew _ W3) none) (fun r e => by cases e)) (tn_of H6.out.2 H6.out.1), (H3.out.below (below_drew _ W3)).moved H6.out.1 H6.out.2⟩
            first | exact hrel | ((repeat apply Exists.intro); exact ⟨hrel, rfl⟩)
          case measure =>
            show downMu s (.int .i32 ((ah 0 : Nat) : Int)) < downMu s (.int .i32 ((s.S[i] : Nat) : Int))
            rw [HM.out, HA0.out, downMu_at OK.out (by omega)]; omega
      · gi_wp2
        go_end0
        exact ⟨⟨_, rfl⟩, .inr ⟨pre ++ [(s.K s.S[i], s.V s.S[i])], ⟨((pairs s).take i).reverse, by rw [HPRE.out.1, HPRE.out.2]; simp⟩, hJx3⟩⟩
    | 0, hi, hpre, HM =>
      have e0 : (Value.int .i32 ((atp s.S 0 : Nat) : Int)) = .int .i32 0 := rfl
      rw [e0]
      clear e0
      gi_wp2
      refine ⟨trivial, ?_⟩
      gi_wp2
      refine ⟨fun _ h => (by cases h), ?_⟩
      gi_wp2
      go_end0
      exact ⟨⟨_, rfl⟩, .inl (by rw [hpre]; simpa using hJs)⟩
/-- no list gives nothing -/
theorem none_seq (gf : Nat) (hgf : gf = 55 ∨ gf = 48) (n : Nat) {bl bk : Nat} {w : World} (hbl : w.heap[bl]? = some (.cells #[.pointer none] 44 (0, 0))) :
    SeqT (α := Pr) Fence.wide n Tryd.prog gf #[.pointer (some ⟨bl, 0, none⟩), .pointer (some ⟨bk, 0, none⟩)] encP (fun _ _ => False) (fun _ _ => True) ([] : List Pr) w := fun lp J Jx W hW hJ hJx hJT hY h0 => by
  have hcl := cell_in ((hW.block bl (Array.getElem?_eq_some_iff.1 hbl).1).trans hbl) 0 (.pointer none) rfl
  rcases hgf with rfl | rfl
  · refine callsIn_of_wp Tryd.func55 rfl trivial ?_ rfl
    simp only [Tryd.ntmps55, List.size_toArray, List.length_cons, List.length_nil, Nat.reduceAdd, Nat.reduceSub, Array.replicate_succ, Array.replicate_zero, List.push_toArray, List.append_toArray, List.nil_append, List.cons_append]
    gi_wp2
    refine bodyPost_ret (results_none rfl _ _ _) rfl ?_
    exact ⟨⟨_, rfl⟩, .inl h0⟩
  · refine callsIn_of_wp Tryd.func48 rfl trivial ?_ rfl
    simp only [Tryd.ntmps48, List.size_toArray, List.length_cons, List.length_nil, Nat.reduceAdd, Nat.reduceSub, Array.replicate_succ, Array.replicate_zero, List.push_toArray, List.append_toArray, List.nil_append, List.cons_append]
    gi_wp2
    refine bodyPost_ret (results_none rfl _ _ _) rfl ?_
    exact ⟨⟨_, rfl⟩, .inl h0⟩
end Go.Proofs.YtadejeoiffaimaaDoor.Sk
