/-
  A skip list's keys, rising: the Go text of the iterator walked. Conditions: as each theorem states.
-/
import Derived.Test.YtadejeoiffaimaaDoorSkG
import Derived.Test.YtadejeoiffaimaaDoorRfW
namespace Go.Proofs.YtadejeoiffaimaaDoor.Sk
open Go.RowKit Go.Shelf
open Go.Proofs.YtadejeoiffaimaaDoor.Rf

attribute [local go_sem] Oper.semAt_some

abbrev encP (x : Pr) : Array Value := #[.string x.1, .string x.2]
/-- how a list's calls turn its own memory -/
def TnL (l : Nat) (v : Value) (s : Ls) (bytes : Int) (A B : World) : Prop := Only (feet l v) A B ∧ ∀ st, SkAt A l v s bytes st → ∃ st', SkAt B l v s bytes st'
/-- what a round keeps: the list, and what the iterator has captured -/
def KpL (bl bk l : Nat) (v : Value) (A B : World) : Prop := B.heap[bl]? = A.heap[bl]? ∧ B.heap[bk]? = A.heap[bk]? ∧ ∀ k ∈ feet l v, B.heap[k]? = A.heap[k]?
theorem KpL.t {bl bk l : Nat} {v : Value} {A B C : World} (h : KpL bl bk l v A B) (k : KpL bl bk l v B C) : KpL bl bk l v A C := ⟨k.1.trans h.1, k.2.1.trans h.2.1, fun j hj => (k.2.2 j hj).trans (h.2.2 j hj)⟩
structure CapL (bl bk l : Nat) (v : Value) (s : Ls) (bytes : Int) (k : ByteArray) (st : Int) (w : World) : Prop where
  at_ : SkAt w l v s bytes st
  hbl : w.heap[bl]? = some (.cells #[.pointer (some ⟨l, 0, none⟩)] 44 (0, 0))
  hbk : w.heap[bk]? = some (.cells #[.string k] 9 (0, 0))
  hfl : bl ∉ feet l v
  hfk : bk ∉ feet l v
section
variable {w w' : World} {bl bk l : Nat} {v : Value} {s : Ls} {bytes st : Int} {k : ByteArray}
theorem CapL.below (h : CapL bl bk l v s bytes k st w) (hb : Below w.heap.size w w') : CapL bl bk l v s bytes k st w' :=
  ⟨h.at_.below hb, (hb.block bl (Array.getElem?_eq_some_iff.1 h.hbl).1).trans h.hbl, (hb.block bk (Array.getElem?_eq_some_iff.1 h.hbk).1).trans h.hbk, h.hfl, h.hfk⟩
theorem CapL.kept (h : CapL bl bk l v s bytes k st w) (hk : KpL bl bk l v w w') : CapL bl bk l v s bytes k st w' :=
  ⟨h.at_.kept hk.2.2, hk.1.trans h.hbl, hk.2.1.trans h.hbk, h.hfl, h.hfk⟩
theorem CapL.moved {st' : Int} (h : CapL bl bk l v s bytes k st w) (hs : SkAt w' l v s bytes st') (hm : Moves w (feet l v) w' (feet l v)) : CapL bl bk l v s bytes k st' w' :=
  ⟨hs, (hm.only.block bl (Array.getElem?_eq_some_iff.1 h.hbl).1 h.hfl).trans h.hbl, (hm.only.block bk (Array.getElem?_eq_some_iff.1 h.hbk).1 h.hfk).trans h.hbk, h.hfl, h.hfk⟩
end
theorem grown_below {W w1 : World} (hb : Below W.heap.size W w1) (r : Option Nat) : W.grownBy w1 r := ⟨hb.os, hb.tape, hb.output, hb.size, fun k hk _ => hb.block k hk⟩
def placeAt (s : Ls) (i : Nat) : Nat := nxt s.H s.S i 0
theorem placeAt_in {s : Ls} (ok : Ok s) {i : Nat} (h : i < s.S.length) : placeAt s i = s.S[i] := by
  unfold placeAt; rw [nxt_bottom ok (by rw [← ok.len]; omega), dif_pos h]
theorem placeAt_end {s : Ls} {i : Nat} (h : s.S.length ≤ i) : placeAt s i = 0 := nxt_end h
def fromMu (s : Ls) (t : Value) : Nat := if (intOf t).toNat = 0 then 0 else s.S.length + 1 - (0 :: s.S).idxOf (intOf t).toNat
theorem fromMu_in {s : Ls} (ok : Ok s) {i : Nat} (h : i < s.S.length) : fromMu s (.int .i32 (s.S[i] : Nat)) = s.S.length - i := by
  unfold fromMu
  have e : (intOf (.int .i32 ((s.S[i] : Nat) : Int))).toNat = s.S[i] := by simp [intOf]
  have h1 := (ok.mem _ (List.getElem_mem h)).1
  have h2 := idx_atp ok (p := i + 1) (by rw [← ok.len]; omega)
  rw [atp_succ h] at h2
  rw [e, if_neg (by omega), h2]; omega
theorem fromMu_next {s : Ls} (ok : Ok s) {i : Nat} (h : i < s.S.length) : fromMu s (.int .i32 (placeAt s (i + 1) : Nat)) < s.S.length - i := by
  by_cases h2 : i + 1 < s.S.length
  · rw [placeAt_in ok h2, fromMu_in ok h2]; omega
  · rw [placeAt_end (by omega)]
    unfold fromMu
    rw [if_pos (by simp [intOf])]; omega
def fromL (s : Ls) (k : ByteArray) : List Pr := (pairs s).drop (pos s k)
def FromJ (bl bk l : Nat) (v : Value) (s : Ls) (bytes : Int) (k : ByteArray) (J : List Pr → World → Prop) (t : Value) (wr : World) : Prop :=
  ∃ (i : Nat) (pre : List Pr) (st : Int), i ≤ s.S.length ∧ t = .int .i32 (placeAt s i : Nat) ∧ fromL s k = pre ++ (pairs s).drop i ∧ J pre wr ∧ CapL bl bk l v s bytes k st wr
theorem drop_pairs {s : Ls} {i : Nat} (h : i < s.S.length) : (pairs s).drop i = (s.K s.S[i], s.V s.S[i]) :: (pairs s).drop (i + 1) := by
  have hl : i < (pairs s).length := by simpa [pairs] using h
  rw [drop_cons hl]; simp [pairs]
theorem tn_of {l : Nat} {v : Value} {s : Ls} {bytes st : Int} {A B : World} (hm : Moves A (feet l v) B (feet l v)) (hs : SkAt B l v s bytes st) : TnL l v s bytes A B := ⟨hm.only, fun _ _ => ⟨st, hs⟩⟩
theorem spot_field1 (ah : Nat → Nat) (at_ : Nat) (th : Bool) (st : Nat) (W : World) : (Instr.field 74 (.agg (spotCells ah at_ th st).toArray) 1).run Tryd.prog W = .ok (.int .i32 (at_ : Nat)) W := by
  kernel_rfl
theorem spot_field0 (ah : Nat → Nat) (at_ : Nat) (th : Bool) (st : Nat) (W : World) : (Instr.field 74 (.agg (spotCells ah at_ th st).toArray) 0).run Tryd.prog W = .ok (.agg (links ah).toArray) W := by
  kernel_rfl
set_option maxRecDepth 100000 in
set_option maxHeartbeats 2000000 in
theorem from_turns (n : Nat) (hn : 1 ≤ n) {bl bk l : Nat} {v : Value} {s : Ls} {bytes st : Int} {k : ByteArray} {w : World} (hC : CapL bl bk l v s bytes k st w) :
    SeqTurns Fence.wide n Tryd.prog 55 #[.pointer (some ⟨bl, 0, none⟩), .pointer (some ⟨bk, 0, none⟩)] encP (TnL l v s bytes) (KpL bl bk l v) (fun xs => xs = fromL s k) (fun pre => pre <+: fromL s k) (fromL s k).length w := fun lp J Jx W hW hJ hJx hJT hY h0 => by
  have C1 := hC.below hW
  have hcl := cell_in C1.hbl 0 _ rfl
  have hck := cell_in C1.hbk 0 _ rfl
  have HC := Lib.hid C1
  obtain ⟨ah, hah⟩ : ∃ ah, prv s.H s.S (pos s k) = ah := ⟨_, rfl⟩
  obtain ⟨at_, hat⟩ : ∃ at_, nxt s.H s.S (pos s k) 0 = at_ := ⟨_, rfl⟩
  obtain ⟨th, hth⟩ : ∃ th, there s k = th := ⟨_, rfl⟩
  have HA := Lib.hid (And.intro hah hat)
  have HT := Lib.hid hth
  have hsp := spot_field1 ah at_ th
  clear C1 hah hat hth hC
  refine callsIn_of_wp Tryd.func55 rfl trivial ?_ rfl
  simp only [Tryd.ntmps55, List.size_toArray, List.length_cons, List.length_nil, Nat.reduceAdd, Nat.reduceSub, Array.replicate_succ, Array.replicate_zero, List.push_toArray, List.append_toArray, List.nil_append, List.cons_append]
  gi_wp2_with (first | (refine ⟨trivial, ?_⟩; gi_at_call 38; refine (callsIn_wide.2 (search_at HC.out.at_ k HA.out HT.out)).mono ?_; rintro e w1 ⟨st1, hst1, rfl, hs1, hm1⟩))
  have ok := HC.out.at_.ok
  have hpl := pos_le' s k
  have C1 := HC.out.moved hs1 hm1
  have J1 := hJT [] W w1 h0 (tn_of hm1 hs1)
  have hat : at_ = placeAt s (pos s k) := HA.out.2.symm
  have HJ0 : Hid (FromJ bl bk l v s bytes k J (.int .i32 (at_ : Nat)) w1) := ⟨pos s k, [], st1, hpl, by rw [hat], rfl, J1, C1⟩
  clear J1 C1 hs1 hm1 hat hpl
  have OK := Lib.hid ok
  clear ok hcl hck hsp
  gi_loopw [4] (FromJ bl bk l v s bytes k J) (fun t _ => fromMu s t)
  case atStart => exact HJ0.out
  case round =>
    obtain ⟨i, pre, sti, hi, rfl, hpre, hJs, C⟩ := hrel
    have hcl := cell_in C.hbl 0 (.pointer (some ⟨l, 0, none⟩)) rfl
    have HCi := Lib.hid C
    clear C HJ0
    by_cases hin : i < s.S.length
    · have hmem := List.getElem_mem hin
      obtain ⟨hq1, hq2⟩ := OK.out.mem _ hmem
      have hfew := HCi.out.at_.few
      have hdr := drop_pairs hin
      have hq0 : ((s.S[i] : Int) != 0) = true := by simp; omega
      have hmu := fromMu_in OK.out hin
      have hnx := fromMu_next OK.out hin
      rw [placeAt_in OK.out hin]
      have HP := Lib.hid (fun W (hW : SkAt W l v s bytes sti) => pair_any hW hmem)
      have HM := Lib.hid (And.intro hmu hnx)
      have HLN : Hid (pre.length < (fromL s k).length) := by rw [Hid, hpre, hdr]; simp
      have HPRE := Lib.hid (And.intro hpre hdr)
      clear hmu hnx hpre hdr
      gi_wp2_with (first | (refine ⟨trivial, ?_⟩; gi_at_call 50; refine (callsIn_wide.2 (HP.out _ HCi.out.at_)).mono ?_; rintro e w2 ⟨rfl, hb2⟩; have J2 := hJ _ _ _ none hJs (grown_below hb2 none) (fun r e => by cases e); have C2 := Lib.hid (HCi.out.below hb2); obtain ⟨fn, tmps, assign, body, hy, hR⟩ := hY pre (s.K s.S[i], s.V s.S[i]) w2 J2 HLN.out; dsimp only [encP] at hy))
      refine hR.mono ?_
      rintro e W3 (⟨rfl, hJ3, hk3⟩ | ⟨rfl, hJx3⟩)
      · have C3 := C2.out.kept hk3
        have hcl3 := cell_in C3.hbl 0 (.pointer (some ⟨l, 0, none⟩)) rfl
        obtain ⟨g, cap, hv, hgl, hcell⟩ := C3.at_.tower hq1 hq2
        have hc0 : Hid (W3.cell? ⟨l, 0, none⟩ = some (.slice (some ⟨g, 0, none⟩) s.n cap)) := by rw [Hid, C3.at_.cell0, hv]
        have hlk := OK.out.link (i + 1) 0 (by rw [← OK.out.len]; omega) (by decide) (.inr (by rw [atp_succ hin]; have := (OK.out.high _ hmem).1; omega))
        rw [atp_succ hin] at hlk
        have hnl := (hcell 3 (.int .i32 (placeAt s (i + 1) : Nat)) (by
          have := tw_link (s.K s.S[i]) (s.V s.S[i]) (s.H s.S[i]) (s.nx s.S[i]) (j := 0) (by decide)
          rw [hlk] at this; exact this)).1
        have H3 := Lib.hid C3
        clear C3 hcell hv hlk
        gi_wp2_with (first | (refine ⟨trivial, ?_⟩; gi_at_call 39; refine (callsIn_wide.2 (tower_any hc0.out hq1 hq2 hfew)).mono ?_; rintro e w5 ⟨rfl, rfl⟩))
        go_roundw
        case rel => exact ⟨i + 1, pre ++ [(s.K s.S[i], s.V s.S[i])], sti, by omega, rfl, by rw [HPRE.out.1, HPRE.out.2]; simp, hJ3, H3.out⟩
        case measure => rw [HM.out.1]; exact HM.out.2
      · gi_wp2
        go_end0
        exact ⟨⟨_, rfl⟩, .inr ⟨pre ++ [(s.K s.S[i], s.V s.S[i])], ⟨(pairs s).drop (i + 1), by rw [HPRE.out.1, HPRE.out.2]; simp⟩, hJx3⟩⟩
    · have hie : i = s.S.length := by omega
      have e0 : (Value.int .i32 ((placeAt s i : Nat) : Int)) = .int .i32 0 := by rw [placeAt_end (by omega)]; rfl
      rw [e0]
      clear e0
      gi_wp2
      refine ⟨trivial, ?_⟩
      gi_wp2
      refine ⟨fun _ h => (by cases h), ?_⟩
      gi_wp2
      go_end0
      exact ⟨⟨_, rfl⟩, .inl ⟨pre, by rw [hpre, hie, List.drop_of_length_le (by simp [pairs]), List.append_nil], hJs⟩⟩
end Go.Proofs.YtadejeoiffaimaaDoor.Sk
