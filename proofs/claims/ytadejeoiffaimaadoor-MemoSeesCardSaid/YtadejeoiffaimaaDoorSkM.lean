/-
  A skip list's keys, falling: the Go text of the iterator walked; a row of them. Conditions: as each theorem states.
-/
import Derived.Test.YtadejeoiffaimaaDoorSkK
import Derived.Test.YtadejeoiffaimaaDoorSkL
import Derived.Shelf.RegionOpen
namespace Go.Proofs.YtadejeoiffaimaaDoor.Sk
open Go.RowKit Go.Shelf
open Go.Proofs.YtadejeoiffaimaaDoor.Rf

attribute [local go_sem] Oper.semAt_some

def downL (s : Ls) (k : ByteArray) : List Pr := ((pairs s).take (upN s k)).reverse
def DownJ (bl bk l : Nat) (v : Value) (s : Ls) (bytes : Int) (k : ByteArray) (J : List Pr → World → Prop) (t : Value) (wr : World) : Prop :=
  ∃ (i : Nat) (pre : List Pr) (st : Int), i ≤ s.S.length ∧ t = .int .i32 (atp s.S i : Nat) ∧ downL s k = pre ++ ((pairs s).take i).reverse ∧ J pre wr ∧ CapL bl bk l v s bytes k st wr
def downMu (s : Ls) (t : Value) : Nat := (0 :: s.S).idxOf (intOf t).toNat
theorem downMu_at {s : Ls} (ok : Ok s) {i : Nat} (h : i ≤ s.S.length) : downMu s (.int .i32 (atp s.S i : Nat)) = i := by
  unfold downMu
  rw [show (intOf (.int .i32 ((atp s.S i : Nat) : Int))).toNat = atp s.S i by simp [intOf]]
  exact idx_atp ok (by rw [← ok.len]; exact h)
theorem take_pairs {s : Ls} {i : Nat} (h : i < s.S.length) : ((pairs s).take (i + 1)).reverse = (s.K s.S[i], s.V s.S[i]) :: ((pairs s).take i).reverse := by
  have hl : i < (pairs s).length := by simpa [pairs] using h
  rw [List.take_succ_eq_append_getElem hl, List.reverse_append]
  simp [pairs]
theorem links_first (ah : Nat → Nat) (W : World) : (Instr.index 64 (.agg (links ah).toArray) (.int .i64 0)).run Tryd.prog W = .ok (.int .i32 (ah 0 : Nat)) W := by
  kernel_rfl
theorem upN_le (s : Ls) (ok : Ok s) (k : ByteArray) : upN s k ≤ s.S.length := by
  have := pos_le' s k
  have := ok.len
  unfold upN
  split
  · omega
  · split
    · next h => obtain ⟨hh, _⟩ := there_yes ok h; omega
    · omega
set_option maxRecDepth 100000 in
set_option maxHeartbeats 2000000 in
theorem down_turns (n : Nat) (hn : 1 ≤ n) {bl bk l : Nat} {v : Value} {s : Ls} {bytes st : Int} {k : ByteArray} {w : World} (hC : CapL bl bk l v s bytes k st w) :
    SeqTurns Fence.wide n Tryd.prog 48 #[.pointer (some ⟨bl, 0, none⟩), .pointer (some ⟨bk, 0, none⟩)] encP (TnL l v s bytes) (KpL bl bk l v) (fun xs => xs = downL s k) (fun pre => pre <+: downL s k) (downL s k).length w := fun lp J Jx W hW hJ hJx hJT hY h0 => by
  have C1 := hC.below hW
  have hcl := cell_in C1.hbl 0 (.pointer (some ⟨l, 0, none⟩)) rfl
  have hck := cell_in C1.hbk 0 (.string k) rfl
  have HC := Lib.hid C1
  have hmx : Tryd.prog.follows .mixedOrders = true := by kernel_rfl
  clear C1 hC
  refine callsIn_of_wp Tryd.func48 rfl trivial ?_ rfl
  simp only [Tryd.ntmps48, List.size_toArray, List.length_cons, List.length_nil, Nat.reduceAdd, Nat.reduceSub, Array.replicate_succ, Array.replicate_zero, List.push_toArray, List.append_toArray, List.nil_append, List.cons_append]
  gi_wp2_with (first | (refine ⟨trivial, ?_⟩; gi_at_call 49; refine (callsIn_wide.2 (upTo_any HC.out.at_ k)).mono ?_; rintro e w1 ⟨rfl, st1, hs1, hm1⟩))
  have ok := HC.out.at_.ok
  have C1 := HC.out.moved hs1 hm1
  have J1 := hJT [] W w1 h0 (tn_of hm1 hs1)
  have HJ0 : Hid (DownJ bl bk l v s bytes k J (.int .i32 (atp s.S (upN s k) : Nat)) w1) := ⟨upN s k, [], st1, upN_le s ok k, rfl, rfl, J1, C1⟩
  clear J1 C1 hs1 hm1
  have OK := Lib.hid ok
  clear ok hcl hck
  gi_loopw [4] (DownJ bl bk l v s bytes k J) (fun t _ => downMu s t)
  case atStart => exact HJ0.out
  case round =>
    obtain ⟨i, pre, sti, hi, rfl, hpre, hJs, C⟩ := hrel
    have hcl := cell_in C.hbl 0 (.pointer (some ⟨l, 0, none⟩)) rfl
    have HCi := Lib.hid C
    have HM := Lib.hid (downMu_at OK.out hi)
    clear C HJ0
    match i, hi, hpre, HM with
    | i + 1, hi, hpre, HM =>
      have hin : i < s.S.length := by omega
      have hmem := List.getElem_mem hin
      obtain ⟨hq1, hq2⟩ := OK.out.mem _ hmem
      have hfew := HCi.out.at_.few
      have hdr := take_pairs hin
      have hq0 : ((s.S[i] : Int) != 0) = true := by simp; omega
      rw [atp_succ hin] at HM ⊢
      have HP := Lib.hid (fun W (hW : SkAt W l v s bytes sti) => pair_any hW hmem)
      have HLN : Hid (pre.length < (downL s k).length) := by rw [Hid, hpre, hdr]; simp
      have HPRE := Lib.hid (And.intro hpre hdr)
      clear hpre hdr
      gi_wp2_with (first | (refine ⟨trivial, ?_⟩; gi_at_call 50; refine (callsIn_wide.2 (HP.out _ HCi.out.at_)).mono ?_; rintro e w2 ⟨rfl, hb2⟩; have J2 := hJ _ _ _ none hJs (grown_below hb2 none) (fun r e => by cases e); have C2 := Lib.hid (HCi.out.below hb2); obtain ⟨fn, tmps, assign, body, hy, hR⟩ := hY pre (s.K s.S[i], s.V s.S[i]) w2 J2 HLN.out; dsimp only [encP] at hy))
      refine hR.mono ?_
      rintro e W3 (⟨rfl, hJ3, hk3⟩ | ⟨rfl, hJx3⟩)
      · have C3 := C2.out.kept hk3
        have hcl3 := cell_in C3.hbl 0 (.pointer (some ⟨l, 0, none⟩)) rfl
        obtain ⟨g, cap, hv, hgl, hcell⟩ := C3.at_.tower hq1 hq2
        have hc0 : Hid (W3.cell? ⟨l, 0, none⟩ = some (.slice (some ⟨g, 0, none⟩) s.n cap)) := by rw [Hid, C3.at_.cell0, hv]
        have hk0 := (hcell 0 (.string (s.K s.S[i])) rfl).1
        rw [Nat.add_zero] at hk0
        obtain ⟨ah, hah⟩ : ∃ ah, prv s.H s.S (pos s (s.K s.S[i])) = ah := ⟨_, rfl⟩
        obtain ⟨at_, hat⟩ : ∃ at_, nxt s.H s.S (pos s (s.K s.S[i])) 0 = at_ := ⟨_, rfl⟩
        obtain ⟨th, hth⟩ : ∃ th, there s (s.K s.S[i]) = th := ⟨_, rfl⟩
        have HA0 : Hid (ah 0 = atp s.S i) := by rw [Hid, ← hah, pos_own OK.out hin, prv_bottom OK.out (by rw [← OK.out.len]; omega)]
        have HA := Lib.hid (And.intro hah hat)
        have HT := Lib.hid hth
        have H3 := Lib.hid C3
        have H3d := Lib.hid (C3.at_.below (below_drew _ W3))
        have hf0 := spot_field0 ah at_ th
        have hl0 := links_first ah
        clear C3 hcell hv hah hat hth
        gi_wp2
        gi_region_with_o (first
          | (refine ⟨trivial, ?_⟩; gi_at_call 39; refine (callsIn_wide.2 (tower_any (by exact hc0.out) hq1 hq2 hfew)).mono ?_; rintro e w5 ⟨rfl, rfl⟩)
          | (refine ⟨trivial, ?_⟩; gi_at_call 38; refine (callsIn_wide.2 (search_at H3d.out _ HA.out HT.out)).mono ?_; rintro e w6 ⟨st6, hst6, rfl, hs6, hm6⟩; have H6 := Lib.hid (And.intro hs6 hm6); clear hs6 hm6))
        all_goals gi_wp2
        all_goals
          go_roundw
          case rel =>
            have hrel : DownJ bl bk l v s bytes k J (.int .i32 (ah 0 : Nat)) w6 := ⟨i, pre ++ [(s.K s.S[i], s.V s.S[i])], st6, by omega, by rw [HA0.out], by rw [HPRE.out.1, HPRE.out.2]; simp, hJT _ _ _ (hJ _ _ _ none hJ3 (grown_below (below_drew _ W3) none) (fun r e => by cases e)) (tn_of H6.out.2 H6.out.1), (H3.out.below (below_drew _ W3)).moved H6.out.1 H6.out.2⟩
            first | exact hrel | ((repeat apply Exists.intro); exact ⟨hrel, rfl⟩)
          case measure =>
            show downMu s (.int .i32 ((ah 0 : Nat) : Int)) < downMu s (.int .i32 ((s.S[i] : Nat) : Int))
            rw [HM.out, HA0.out, downMu_at OK.out (by omega)]; omega
      · gi_wp2
        go_end0
        exact ⟨⟨_, rfl⟩, .inr ⟨pre ++ [(s.K s.S[i], s.V s.S[i])], ⟨((pairs s).take i).reverse, by rw [HPRE.out.1, HPRE.out.2]; simp⟩, hJx3⟩⟩
    | 0, hi, hpre, HM =>
      have e0 : (Value.int .i32 ((atp s.S 0 : Nat) : Int)) = .int .i32 0 := rfl
      rw [e0]
      clear e0
      gi_wp2
      refine ⟨trivial, ?_⟩
      gi_wp2
      refine ⟨fun _ h => (by cases h), ?_⟩
      gi_wp2
      go_end0
      exact ⟨⟨_, rfl⟩, .inl ⟨pre, by rw [hpre]; simp, hJs⟩⟩
theorem down_any (w : World) (l : Nat) (k : ByteArray) :
    Calls Tryd.prog 33 #[.pointer (some ⟨l, 0, none⟩), .string k] w fun e w' => e = .returned (.func (.func 48) #[] #[.pointer (some ⟨w.heap.size, 0, none⟩), .pointer (some ⟨w.heap.size + 1, 0, none⟩)]) ∧ w' = (w.alloc (.cells #[.pointer (some ⟨l, 0, none⟩)] 44)).alloc (.cells #[.string k] 9) := by
  go_enter Tryd.func33, Tryd.ntmps33
  go_wp2
  go_ret
  exact ⟨rfl, rfl⟩
def dnL (P : List Pr) (k : ByteArray) : List Pr := (P.filter (fun x => decide (k = ⟨#[]⟩) || !lt k x.1)).reverse
theorem down_is {s : Ls} (ok : Ok s) (k : ByteArray) : downL s k = dnL (pairs s) k := by
  unfold downL dnL
  congr 1
  by_cases hk : k = ⟨#[]⟩
  · rw [filter_all (fun x _ => by simp [hk]), List.take_of_length_le (by rw [pairs_len ok]; unfold upN; rw [if_pos hk]; omega)]
  · have hu : upN s k = if there s k = true then pos s k + 1 else pos s k := by unfold upN; rw [if_neg hk]
    rw [hu]
    conv => rhs; rw [← List.take_append_drop (pos s k) (pairs s)]
    rw [List.filter_append, filter_all (fun x hx => by rw [lt_anti (lo_lt k x hx)]; simp)]
    cases ht : there s k with
    | true =>
      obtain ⟨hh, _, hkk⟩ := there_yes ok ht
      have hd := drop_pairs hh
      rw [hkk] at hd
      have hs : ((pairs s).drop (pos s k)).Pairwise (fun x y => lt x.1 y.1 = true) := (pairs_srt ok).sublist (List.drop_sublist _ _)
      rw [hd, List.pairwise_cons] at hs
      rw [if_pos rfl, hd, List.filter_cons, filter_none (fun x hx => by rw [hs.1 x hx]; simp [hk]), if_pos (by show (decide (k = ⟨#[]⟩) || !lt k k) = true; rw [lt_irr]; simp)]
      have hl : pos s k < (pairs s).length := by simpa [pairs] using hh
      rw [List.take_succ_eq_append_getElem hl]
      congr 1
      have := drop_cons hl
      rw [hd] at this
      injection this with h1 _
      rw [← h1]
    | false =>
      rw [if_neg (by decide), filter_none (fun x hx => by
        have h1 := hi_ge ok k x hx
        cases e : lt k x.1 with
        | true => simp [hk]
        | false =>
          have hxk := lt_tri h1 e
          obtain ⟨p, hp, rfl⟩ := List.mem_map.1 (List.mem_of_mem_drop hx)
          exact absurd hxk (there_no ok ht p hp)), List.append_nil]
theorem dnL_len (P : List Pr) (k : ByteArray) : (dnL P k).length ≤ P.length := by
  unfold dnL; rw [List.length_reverse]; exact List.length_filter_le _ _
/-- the keys up to one, falling, collected -/
theorem rowDown {w : World} {l n : Nat} {v : Value} {P : List Pr} (h : Lst w l v P n) (k : ByteArray) (m : Nat) (hm : m ≤ 9223372036854775807) {mi : Int} (hmi : mi = (m : Nat)) {W : World} (hW : W = (w.alloc (.cells #[.pointer (some ⟨l, 0, none⟩)] 44)).alloc (.cells #[.string k] 9)) :
    Calls Tryd.prog 51 #[.func (.func 48) #[] #[.pointer (some ⟨w.heap.size, 0, none⟩), .pointer (some ⟨w.heap.size + 1, 0, none⟩)], .int .i64 mi] W (RowL W l v P n ((dnL P k).take m)) := by
  subst hW hmi
  have hl := dnL_len P k
  obtain ⟨hlen, hfew⟩ := h.len
  obtain ⟨s, b, st, h1, rfl, rfl⟩ := h
  have hC := cap_of h1 k
  have hf := down_is h1.ok k
  refine (callsIn_wide.1 (row_in 3 (by omega) (dnL (pairs s) k) (by omega) m hm (enters_of Tryd.func48 (by kernel_rfl) rfl) (fun W hb => ?_) (ask_of hC))).mono ?_
  · have := down_turns 2 (by omega) (hC.below hb)
    rw [hf] at this
    exact this
  · rintro e w' ⟨vv, he, hr, ho, st', hs⟩
    exact ⟨vv, he, hr, ⟨s, b, st', hs, rfl, rfl⟩, ho, fun k hk => .inl hk⟩
end Go.Proofs.YtadejeoiffaimaaDoor.Sk
