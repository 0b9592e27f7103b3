/-
  Orders and balances as bytes, and back: what is written is read as it was; what is read would be written so. Conditions: as each theorem states.
-/
import Derived.Test.YtckkabiafikjfaaOrR
import Derived.Test.YtckkabiafikjfaaOrB
namespace Go.Proofs.Ytckkabiafikjfaa.Odx
open Go.RowKit
open Go.Proofs.Ytckkabiafikjfaa
open Am Vi

abbrev Pt := Nat × Int
def nx (L : List UInt8) (p : Pt) : Nat × Pt := dNum L p.1 p.2
theorem eta3 {α : Type} {p : α × Nat × Int} (h : p.2.2 = 0) : p = (p.1, p.2.1, 0) := by
  obtain ⟨a, b, c⟩ := p
  simp at h ⊢; exact h
theorem drop_mid (A C : List UInt8) : (A ++ C).drop A.length = C := by simp
theorem dNum_mid (A C : List UInt8) (n : Nat) (h : n < 18446744073709551616) : dNum (A ++ (vnum n ++ C)) A.length 0 = (n, A.length + (vnum n).length, 0) := by
  rw [dNum_ok, drop_mid, rnum_vnum h]; rfl
theorem dNum_back {L : List UInt8} {at_ at2 : Nat} {n : Nat} (h : dNum L at_ 0 = (n, at2, 0)) : L.take at2 = L.take at_ ++ vnum n := by
  rw [dNum_ok] at h
  injection h with e1 e2
  injection e2 with e2 e3
  have e3 : (rnum (L.drop at_)).2.2 = 0 := by omega
  have := vnum_rnum (l := L.drop at_) (a := n) (k := (rnum (L.drop at_)).2.1) (by rw [← e1, ← e3])
  rw [this, ← e2, List.take_add]
def pt (A : List UInt8) : Pt := (A.length, 0)
theorem nx_mid {L A C : List UInt8} {n : Nat} (h : n < 18446744073709551616) (hL : L = A ++ (vnum n ++ C)) : nx L (pt A) = (n, pt (A ++ vnum n)) := by
  subst hL; unfold nx pt; rw [dNum_mid A C n h, List.length_append]
theorem nx_bad {L : List UInt8} {p : Pt} (h : p.2 ≠ 0) : nx L p = (0, p) := by unfold nx; rw [dNum_bad h]
/-- from p to q the bytes X were read -/
structure Got (L : List UInt8) (p q : Pt) (X : List UInt8) : Prop where
  good : p.2 = 0
  all : L.take q.1 = L.take p.1 ++ X
  le : q.1 ≤ L.length
theorem Got.trans {L : List UInt8} {p q r : Pt} {X Y : List UInt8} (h : Got L p q X) (h2 : Got L q r Y) : Got L p r (X ++ Y) := ⟨h.good, by rw [h2.all, h.all, List.append_assoc], h2.le⟩
theorem nx_back {L : List UInt8} {p : Pt} (hq : (nx L p).2.2 = 0) (hp : p.1 ≤ L.length) : Got L p (nx L p).2 (vnum (nx L p).1) := by
  have g : p.2 = 0 := by
    by_cases h : p.2 = 0
    · exact h
    · rw [nx_bad h] at hq; exact hq
  obtain ⟨a, e⟩ := p
  simp only at g
  subst g
  refine ⟨rfl, ?_, ?_⟩
  · exact dNum_back (L := L) (at_ := a) (n := (dNum L a 0).1) (at2 := (dNum L a 0).2.1) (eta3 hq)
  · unfold nx; exact dNum_at hp
theorem nx_sticky {L : List UInt8} {p : Pt} (hq : (nx L p).2.2 = 0) : p.2 = 0 := by
  by_cases h : p.2 = 0
  · exact h
  · rw [nx_bad h] at hq; exact hq

theorem nx_at {L : List UInt8} {p : Pt} (h : p.1 ≤ L.length) : (nx L p).2.1 ≤ L.length := dNum_at h
theorem nx_lt (L : List UInt8) (p : Pt) : (nx L p).1 < 18446744073709551616 := dNum_lt _ _ _
/-- A side or a state. -/
def sm (L : List UInt8) (p : Pt) : Nat × Pt := if 2147483647 < (nx L p).1 then (0, dFail (nx L p).2.1 (nx L p).2.2 4) else nx L p
theorem sm_at {L : List UInt8} {p : Pt} (h : p.1 ≤ L.length) : (sm L p).2.1 ≤ L.length := by
  unfold sm; split
  · rw [dFail_at]; exact nx_at h
  · exact nx_at h
theorem sm_le (L : List UInt8) (p : Pt) : (sm L p).1 ≤ 2147483647 := by unfold sm; split <;> simp_all
theorem sm_bad {L : List UInt8} {p : Pt} (h : p.2 ≠ 0) : sm L p = (0, p) := by unfold sm; rw [nx_bad h, if_neg (by simp)]
theorem sm_sticky {L : List UInt8} {p : Pt} (hq : (sm L p).2.2 = 0) : p.2 = 0 := by
  by_cases h : p.2 = 0
  · exact h
  · rw [sm_bad h] at hq; exact hq
theorem sm_mid {L A C : List UInt8} {n : Nat} (h : n ≤ 2147483647) (hL : L = A ++ (vnum n ++ C)) : sm L (pt A) = (n, pt (A ++ vnum n)) := by
  have := nx_mid (L := L) (A := A) (C := C) (n := n) (by omega) hL
  unfold sm; rw [this, if_neg (by simp; omega)]
theorem sm_back {L : List UInt8} {p : Pt} (hq : (sm L p).2.2 = 0) (hp : p.1 ≤ L.length) : Got L p (sm L p).2 (vnum (sm L p).1) := by
  by_cases h2 : 2147483647 < (nx L p).1
  · have e : sm L p = (0, dFail (nx L p).2.1 (nx L p).2.2 4) := if_pos h2
    rw [e] at hq
    exfalso
    by_cases h3 : (nx L p).2.2 = 0
    · rw [h3, dFail_ok] at hq; simp at hq
    · rw [dFail_bad h3] at hq; exact h3 hq
  · have e : sm L p = nx L p := if_neg h2
    rw [e] at hq ⊢
    exact nx_back hq hp
theorem zig_zag (n : Nat) : zig (zag n) = n := by
  unfold zig zag
  by_cases h : n % 2 = 1
  · rw [if_pos h, if_pos (by omega)]; omega
  · rw [if_neg h, if_neg (by omega)]; omega
def r1 (L : List UInt8) : Nat × Pt := nx L (0, 0)
def r2 (L : List UInt8) : Nat × Pt := sm L (r1 L).2
def r3 (L : List UInt8) : Nat × Pt := nx L (r2 L).2
def r4 (L : List UInt8) : Nat × Pt := nx L (r3 L).2
def r5 (L : List UInt8) : Nat × Pt := nx L (r4 L).2
def r6 (L : List UInt8) : Nat × Pt := nx L (r5 L).2
def r7 (L : List UInt8) : Nat × Pt := nx L (r6 L).2
def r8 (L : List UInt8) : Nat × Pt := sm L (r7 L).2
theorem r1_at (L : List UInt8) : (r1 L).2.1 ≤ L.length := nx_at (Nat.zero_le _)
theorem r2_at (L : List UInt8) : (r2 L).2.1 ≤ L.length := sm_at (r1_at L)
theorem r3_at (L : List UInt8) : (r3 L).2.1 ≤ L.length := nx_at (r2_at L)
theorem r4_at (L : List UInt8) : (r4 L).2.1 ≤ L.length := nx_at (r3_at L)
theorem r5_at (L : List UInt8) : (r5 L).2.1 ≤ L.length := nx_at (r4_at L)
theorem r6_at (L : List UInt8) : (r6 L).2.1 ≤ L.length := nx_at (r5_at L)
theorem r7_at (L : List UInt8) : (r7 L).2.1 ≤ L.length := nx_at (r6_at L)
theorem r8_at (L : List UInt8) : (r8 L).2.1 ≤ L.length := sm_at (r7_at L)
def pO (id : Nat) (L : List UInt8) : Odr := ⟨id, (r1 L).1, ((r2 L).1 : Int), zag (r3 L).1, zag (r4 L).1, zag (r5 L).1, (r6 L).1, (r7 L).1, ((r8 L).1 : Int)⟩
def pE (L : List UInt8) : Int := dEnd L.length (r8 L).2.1 (r8 L).2.2
def Odr.none : Odr := ⟨0, 0, 0, 0, 0, 0, 0, 0, 0⟩
def parseO (id : Nat) (L : List UInt8) : Odr × Int := if pE L = 0 then (if chkO (pO id L) = 0 then (pO id L, 0) else (Odr.none, chkO (pO id L))) else (Odr.none, pE L)
theorem pO_ok {id : Nat} (h : id < 18446744073709551616) (L : List UInt8) : (pO id L).ok := by
  have z : ∀ p, rg (zag (nx L p).1) := fun p => zag_bd (nx_lt L p)
  have s : ∀ p, rg ((sm L p).1 : Int) := fun p => by have := sm_le L p; unfold rg; omega
  exact ⟨h, nx_lt _ _, s _, z _, z _, z _, nx_lt _ _, nx_lt _ _, s _⟩
theorem none_ok : Odr.none.ok := ⟨by show 0 < _; decide, by show 0 < _; decide, by show rg 0; decide, by show rg 0; decide, by show rg 0; decide, by show rg 0; decide, by show 0 < _; decide, by show 0 < _; decide, by show rg 0; decide⟩
theorem parseO_ok {id : Nat} (h : id < 18446744073709551616) (L : List UInt8) : (parseO id L).1.ok := by
  unfold parseO; split
  · split
    · exact pO_ok h L
    · exact none_ok
  · exact none_ok
theorem st_bd {s l : Int} (h : stOk s l = true) : 1 ≤ s ∧ s ≤ 4 := by
  unfold stOk at h
  by_cases h1 : s = 1
  · omega
  rw [if_neg h1] at h
  by_cases h2 : s = 2
  · omega
  rw [if_neg h2] at h
  simp at h; omega
theorem chk_state {o : Odr} (h : chkO o = 0) : 1 ≤ o.state ∧ o.state ≤ 4 := by
  have h0 := h
  unfold chkO at h
  by_cases hs : stOk o.state o.left = true
  · exact st_bd hs
  · exfalso
    by_cases h1 : o.account = 0 ∨ o.id = 0
    · rw [if_pos h1] at h; omega
    rw [if_neg h1] at h
    by_cases h2 : ¬ (o.side = 1 ∨ o.side = 2)
    · rw [if_pos h2] at h; omega
    rw [if_neg h2] at h
    by_cases h3 : ¬ rightI o.price o.size = 0
    · rw [if_pos h3] at h; exact h3 h
    rw [if_neg h3] at h
    by_cases h4 : o.left < 0 ∨ o.size < o.left
    · rw [if_pos h4] at h; omega
    rw [if_neg h4, if_neg hs] at h
    omega
theorem chk_side {o : Odr} (h : chkO o = 0) : o.side = 1 ∨ o.side = 2 := by
  unfold chkO at h
  by_cases h1 : o.account = 0 ∨ o.id = 0
  · rw [if_pos h1] at h; omega
  rw [if_neg h1] at h
  by_cases h2 : ¬ (o.side = 1 ∨ o.side = 2)
  · rw [if_pos h2] at h; omega
  · omega
theorem u64_small {n : Int} (h0 : 0 ≤ n) (h : n < 18446744073709551616) : u64 n = n.toNat := by unfold u64; omega
theorem parse_ob {o : Odr} (ho : o.ok) (h : chkO o = 0) : parseO o.id (ob o) = (o, 0) := by
  have hs := chk_side h
  have ht := chk_state h
  obtain ⟨id, account, side, price, size, left, rank, expiry, state⟩ := o
  simp only at hs ht
  obtain ⟨o1, o2, o3, o4, o5, o6, o7, o8, o9⟩ := ho
  simp only at o1 o2 o3 o4 o5 o6 o7 o8 o9
  have us : u64 side = side.toNat := u64_small (by omega) (by omega)
  have ut : u64 state = state.toNat := u64_small (by omega) (by omega)
  have hL : ob ⟨id, account, side, price, size, left, rank, expiry, state⟩ = vnum account ++ (vnum side.toNat ++ (vnum (zig price) ++ (vnum (zig size) ++ (vnum (zig left) ++ (vnum rank ++ (vnum expiry ++ vnum state.toNat)))))) := by
    unfold ob; simp only [us, ut, List.append_assoc]
  generalize hX : ob ⟨id, account, side, price, size, left, rank, expiry, state⟩ = L at hL ⊢
  have e1 : r1 L = (account, pt (vnum account)) := by
    have := nx_mid (L := L) (A := []) (n := account) o2 hL
    exact this
  have e2 : r2 L = (side.toNat, pt (vnum account ++ vnum side.toNat)) := by
    unfold r2; rw [e1]; exact sm_mid (by omega) hL
  have e3 : r3 L = (zig price, pt (vnum account ++ vnum side.toNat ++ vnum (zig price))) := by
    unfold r3; rw [e2]; exact nx_mid (zig_lt o4.1 o4.2) (by rw [hL, List.append_assoc])
  have e4 : r4 L = (zig size, pt (vnum account ++ vnum side.toNat ++ vnum (zig price) ++ vnum (zig size))) := by
    unfold r4; rw [e3]; exact nx_mid (zig_lt o5.1 o5.2) (by rw [hL]; simp only [List.append_assoc]; rfl)
  have e5 : r5 L = (zig left, pt (vnum account ++ vnum side.toNat ++ vnum (zig price) ++ vnum (zig size) ++ vnum (zig left))) := by
    unfold r5; rw [e4]; exact nx_mid (zig_lt o6.1 o6.2) (by rw [hL]; simp only [List.append_assoc]; rfl)
  have e6 : r6 L = (rank, pt (vnum account ++ vnum side.toNat ++ vnum (zig price) ++ vnum (zig size) ++ vnum (zig left) ++ vnum rank)) := by
    unfold r6; rw [e5]; exact nx_mid o7 (by rw [hL]; simp only [List.append_assoc]; rfl)
  have e7 : r7 L = (expiry, pt (vnum account ++ vnum side.toNat ++ vnum (zig price) ++ vnum (zig size) ++ vnum (zig left) ++ vnum rank ++ vnum expiry)) := by
    unfold r7; rw [e6]; exact nx_mid o8 (by rw [hL]; simp only [List.append_assoc]; rfl)
  have e8 : r8 L = (state.toNat, pt (vnum account ++ vnum side.toNat ++ vnum (zig price) ++ vnum (zig size) ++ vnum (zig left) ++ vnum rank ++ vnum expiry ++ vnum state.toNat)) := by
    unfold r8; rw [e7]; exact sm_mid (C := []) (by omega) (by rw [hL]; simp only [List.append_assoc, List.append_nil])
  have hO : pO id L = ⟨id, account, side, price, size, left, rank, expiry, state⟩ := by
    unfold pO
    rw [e1, e2, e3, e4, e5, e6, e7, e8]
    simp only [zag_zig]
    rw [show ((side.toNat : Nat) : Int) = side by omega, show ((state.toNat : Nat) : Int) = state by omega]
  have hE : pE L = 0 := by
    unfold pE
    rw [e8]
    refine dEnd_ok ?_
    unfold pt
    rw [hL]
    simp only [List.append_assoc]
    omega
  unfold parseO
  rw [if_pos hE, hO, if_pos h]
theorem end_zero {n at_ : Nat} {err : Int} (h : dEnd n at_ err = 0) : err = 0 ∧ ¬ at_ < n := by
  unfold dEnd at h
  by_cases he : err = 0
  · rw [if_pos he] at h
    by_cases hl : at_ < n
    · rw [if_pos hl] at h; omega
    · exact ⟨he, hl⟩
  · rw [if_neg he] at h; exact absurd h he
theorem ob_pO {id : Nat} {L : List UInt8} (h : pE L = 0) : ob (pO id L) = L := by
  obtain ⟨h8, hn⟩ := end_zero h
  have h7 : (r7 L).2.2 = 0 := sm_sticky h8
  have h6 : (r6 L).2.2 = 0 := nx_sticky h7
  have h5 : (r5 L).2.2 = 0 := nx_sticky h6
  have h4 : (r4 L).2.2 = 0 := nx_sticky h5
  have h3 : (r3 L).2.2 = 0 := nx_sticky h4
  have h2 : (r2 L).2.2 = 0 := nx_sticky h3
  have h1 : (r1 L).2.2 = 0 := sm_sticky h2
  have g1 : Got L (0, 0) (r1 L).2 (vnum (r1 L).1) := nx_back h1 (Nat.zero_le _)
  have g2 : Got L (r1 L).2 (r2 L).2 (vnum (r2 L).1) := sm_back h2 (r1_at L)
  have g3 : Got L (r2 L).2 (r3 L).2 (vnum (r3 L).1) := nx_back h3 (r2_at L)
  have g4 : Got L (r3 L).2 (r4 L).2 (vnum (r4 L).1) := nx_back h4 (r3_at L)
  have g5 : Got L (r4 L).2 (r5 L).2 (vnum (r5 L).1) := nx_back h5 (r4_at L)
  have g6 : Got L (r5 L).2 (r6 L).2 (vnum (r6 L).1) := nx_back h6 (r5_at L)
  have g7 : Got L (r6 L).2 (r7 L).2 (vnum (r7 L).1) := nx_back h7 (r6_at L)
  have g8 : Got L (r7 L).2 (r8 L).2 (vnum (r8 L).1) := sm_back h8 (r7_at L)
  have G := ((((((g1.trans g2).trans g3).trans g4).trans g5).trans g6).trans g7).trans g8
  have ha := G.all
  rw [List.take_of_length_le (by omega)] at ha
  have b2 := sm_le L (r1 L).2
  have b8 := sm_le L (r7 L).2
  have u2 : u64 ((r2 L).1 : Int) = (r2 L).1 := by unfold r2; unfold u64; omega
  have u8 : u64 ((r8 L).1 : Int) = (r8 L).1 := by unfold r8; unfold u64; omega
  unfold ob pO
  simp only [u2, u8, zig_zag]
  exact ha.symm
theorem ob_parse {id : Nat} {L : List UInt8} (h : (parseO id L).2 = 0) : ob (parseO id L).1 = L ∧ chkO (parseO id L).1 = 0 := by
  unfold parseO at h ⊢
  by_cases h1 : pE L = 0
  · rw [if_pos h1] at h ⊢
    by_cases h2 : chkO (pO id L) = 0
    · rw [if_pos h2] at h ⊢; exact ⟨ob_pO h1, h2⟩
    · rw [if_neg h2] at h; exact absurd h h2
  · rw [if_neg h1] at h; exact absurd h h1
/-! balances -/
def s2 (L : List UInt8) : Nat × Pt := nx L (r1 L).2
theorem s2_at (L : List UInt8) : (s2 L).2.1 ≤ L.length := nx_at (r1_at L)
def pB (L : List UInt8) : Bal := ⟨zag (r1 L).1, zag (s2 L).1⟩
def pF (L : List UInt8) : Int := dEnd L.length (s2 L).2.1 (s2 L).2.2
def parseB (L : List UInt8) : Bal × Int := if pF L = 0 then (if fitI (pB L) = 0 then (pB L, 0) else (⟨0, 0⟩, fitI (pB L))) else (⟨0, 0⟩, pF L)
theorem pB_ok (L : List UInt8) : (pB L).ok := ⟨zag_bd (nx_lt _ _), zag_bd (nx_lt _ _)⟩
theorem parseB_ok (L : List UInt8) : (parseB L).1.ok := by
  unfold parseB; split
  · split
    · exact pB_ok L
    · exact ⟨by show rg 0; decide, by show rg 0; decide⟩
  · exact ⟨by show rg 0; decide, by show rg 0; decide⟩
theorem parse_mb {b : Bal} (ho : b.ok) (h : fitI b = 0) : parseB (mb b) = (b, 0) := by
  obtain ⟨free, held⟩ := b
  obtain ⟨o1, o2⟩ := ho
  simp only at o1 o2
  have hL : mb ⟨free, held⟩ = vnum (zig free) ++ vnum (zig held) := rfl
  generalize hX : mb ⟨free, held⟩ = L at hL ⊢
  have e1 : r1 L = (zig free, pt (vnum (zig free))) := nx_mid (L := L) (A := []) (n := zig free) (zig_lt o1.1 o1.2) hL
  have e2 : s2 L = (zig held, pt (vnum (zig free) ++ vnum (zig held))) := by
    unfold s2; rw [e1]; exact nx_mid (C := []) (zig_lt o2.1 o2.2) (by rw [hL]; simp)
  have hO : pB L = ⟨free, held⟩ := by unfold pB; rw [e1, e2]; simp only [zag_zig]
  have hE : pF L = 0 := by
    unfold pF
    rw [e2]
    refine dEnd_ok ?_
    unfold pt
    rw [hL]
    exact Nat.lt_irrefl _
  unfold parseB
  rw [if_pos hE, hO, if_pos h]
theorem mb_parse {L : List UInt8} (h : (parseB L).2 = 0) : mb (parseB L).1 = L := by
  unfold parseB at h ⊢
  by_cases h1 : pF L = 0
  · rw [if_pos h1] at h ⊢
    by_cases h2 : fitI (pB L) = 0
    · rw [if_pos h2]
      obtain ⟨h8, hn⟩ := end_zero h1
      have h0 : (r1 L).2.2 = 0 := nx_sticky h8
      have g1 : Got L (0, 0) (r1 L).2 (vnum (r1 L).1) := nx_back h0 (Nat.zero_le _)
      have g2 : Got L (r1 L).2 (s2 L).2 (vnum (s2 L).1) := nx_back h8 (r1_at L)
      have ha := (g1.trans g2).all
      rw [List.take_of_length_le (by omega)] at ha
      unfold mb pB
      simp only [zig_zag]
      exact ha.symm
    · rw [if_neg h2] at h; exact absurd h h2
  · rw [if_neg h1] at h; exact absurd h h1
end Go.Proofs.Ytckkabiafikjfaa.Odx
