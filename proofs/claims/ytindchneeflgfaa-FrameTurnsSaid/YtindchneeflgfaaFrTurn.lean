/-
  A log in which one byte of a piece is turned: mathematics. No condition but those that each theorem states.
-/
import Derived.Test.YtindchneeflgfaaFrJ
import Derived.Test.YtindchneeflgfaaCrT
namespace Go.Proofs.Ytindchneeflgfaa
open Vi

/-- one byte turned, another sum -/
theorem ofL_byte (p r : List UInt8) (c e : UInt8) (he : e ≠ 0) : Crc.ofL (p ++ (c ^^^ e) :: r) ≠ Crc.ofL (p ++ c :: r) := by
  intro h
  have hn : e.toNat ≠ 0 := fun h0 => he (by
    apply UInt8.toNat_inj.1; rw [h0]; rfl)
  have hl : e.toNat < 4294967296 := Nat.lt_trans e.toNat_lt (by decide)
  unfold Crc.ofL Crc.add at h
  have hr1 := Crc.run_lt (p ++ (c ^^^ e) :: r) (Crc.neg_lt 0)
  have hr2 := Crc.run_lt (p ++ c :: r) (Crc.neg_lt 0)
  have h2 : Crc.run (Crc.neg32 0) (p ++ (c ^^^ e) :: r) = Crc.run (Crc.neg32 0) (p ++ c :: r) := by
    have := congrArg Crc.neg32 h
    rwa [Crc.neg_neg32 hr1, Crc.neg_neg32 hr2] at this
  rw [Crc.run_append, Crc.run_append] at h2
  have e1 := Crc.upd_dif (Crc.run (Crc.neg32 0) p) 0 c e
  rw [Nat.xor_zero, Nat.zero_xor] at e1
  have h3 : Crc.run (Crc.upd (Crc.run (Crc.neg32 0) p) c ^^^ Crc.stps 8 e.toNat) r = Crc.run (Crc.upd (Crc.run (Crc.neg32 0) p) c) r := by
    rw [← e1]; exact h2
  rw [Crc.run_dif] at h3
  have h4 : Crc.stps (8 * r.length) (Crc.stps 8 e.toNat) = 0 := by
    generalize Crc.run (Crc.upd (Crc.run (Crc.neg32 0) p) c) r = X at h3
    have := congrArg (X ^^^ ·) h3
    simpa [← Nat.xor_assoc] using this
  exact Crc.stps_ne _ (Crc.stps_lt 8 hl) (Crc.stps_ne 8 hl hn) h4
/-- A text with one byte turned. -/
def turn (l : List UInt8) (m : Nat) (e : UInt8) : List UInt8 := l.modify m (· ^^^ e)
theorem turn_len (l : List UInt8) (m : Nat) (e : UInt8) : (turn l m e).length = l.length := by simp [turn]
theorem turn_zero (x : UInt8) (l : List UInt8) (e : UInt8) : turn (x :: l) 0 e = (x ^^^ e) :: l := by simp [turn]
theorem turn_succ (x : UInt8) (l : List UInt8) (m : Nat) (e : UInt8) : turn (x :: l) (m + 1) e = x :: turn l m e := by simp [turn]
theorem turn_left {b : List UInt8} {e : UInt8} : ∀ {a : List UInt8} {m : Nat}, m < a.length → turn (a ++ b) m e = turn a m e ++ b
  | [], m, h => by simp at h
  | x :: a, 0, _ => by rw [List.cons_append, turn_zero, turn_zero]; rfl
  | x :: a, m + 1, h => by rw [List.cons_append, turn_succ, turn_succ, turn_left (by simpa using h)]; rfl
theorem turn_right {b : List UInt8} {e : UInt8} : ∀ {a : List UInt8} {m : Nat}, a.length ≤ m → turn (a ++ b) m e = a ++ turn b (m - a.length) e
  | [], m, _ => by simp
  | x :: a, 0, h => by simp at h
  | x :: a, m + 1, h => by rw [List.cons_append, turn_succ, turn_right (by simpa using h), List.length_cons, Nat.add_sub_add_right]; rfl
theorem turn_form {l : List UInt8} {m : Nat} (h : m < l.length) (e : UInt8) : turn l m e = l.take m ++ (l[m] ^^^ e) :: l.drop (m + 1) := by
  unfold turn
  rw [List.modify_eq_take_cons_drop h]
theorem form_of {l : List UInt8} {m : Nat} (h : m < l.length) : l = l.take m ++ l[m] :: l.drop (m + 1) := by
  rw [List.getElem_cons_drop h, List.take_append_drop]
theorem xor_ne {c e : UInt8} (h : e ≠ 0) : c ^^^ e ≠ c := fun h' => h (by
  have : c ^^^ (c ^^^ e) = c ^^^ c := by rw [h']
  rw [← UInt8.xor_assoc, UInt8.xor_self, UInt8.zero_xor] at this
  exact this)
theorem turn_ne {l : List UInt8} {m : Nat} (h : m < l.length) {e : UInt8} (he : e ≠ 0) : turn l m e ≠ l := fun h' => by
  have := congrArg (fun x => x[m]?) h'
  simp [turn, h] at this
  exact xor_ne he this
theorem ofL_turned {l : List UInt8} {m : Nat} (h : m < l.length) {e : UInt8} (he : e ≠ 0) : Crc.ofL (turn l m e) ≠ Crc.ofL l := by
  rw [turn_form h]
  conv => rhs; rw [form_of h]
  exact ofL_byte _ _ _ _ he
theorem big_inj4 {a b : List UInt8} (ha : a.length = 4) (hb : b.length = 4) (h : big a = big b) : a = b := by
  have e1 := little_big a
  have e2 := little_big b
  rw [ha, h] at e1
  rw [hb] at e2
  rw [← e1, e2]
theorem mask_inj {a b : Nat} (ha : a < 4294967296) (hb : b < 4294967296) (h : Crc.mask a = Crc.mask b) : a = b := by
  rw [← Crc.unmask_mask ha, ← Crc.unmask_mask hb, h]
theorem preadV_cells {q n : Nat} {t0 t1 t2 t3 K : UInt8} {s : List UInt8} (hn : s.length = n) (hs : n ≤ 505) (R : List UInt8) :
    preadV q (t0 :: t1 :: t2 :: t3 :: UInt8.ofNat (n % 256) :: UInt8.ofNat (n / 256 % 256) :: K :: (s ++ R)) = if Crc.mask (Crc.ofL (K :: s)) = big [t0, t1, t2, t3] ∧ 1 ≤ K.toNat ∧ K.toNat ≤ 4 then some (K.toNat, s, q + (7 + n)) else none := by
  subst hn
  have hln := lens_eq hs
  rw [preadV, if_pos (by simp; omega)]
  have ht : (K :: (s ++ R)).take (1 + (UInt8.ofNat (s.length % 256)).toNat + (UInt8.ofNat (s.length / 256 % 256)).toNat * 256) = K :: s := by
    rw [show 1 + (UInt8.ofNat (s.length % 256)).toNat + (UInt8.ofNat (s.length / 256 % 256)).toNat * 256 = s.length + 1 by omega, List.take_succ_cons, List.take_left']
    rfl
  rw [ht]
  simp only []
  rw [show q + (7 + (UInt8.ofNat (s.length % 256)).toNat + (UInt8.ofNat (s.length / 256 % 256)).toNat * 256) = q + (7 + s.length) by omega]
theorem preadV_turned {q k m : Nat} {s : List UInt8} {e : UInt8} (hs : s.length ≤ 505) (he : e ≠ 0) (hm : m < 4 ∨ (7 ≤ m ∧ m < 7 + s.length)) (R : List UInt8) : preadV q (turn (pce k s) m e ++ R) = none := by
  obtain ⟨s0, s1, s2, s3, _, hp, hb⟩ := pce_form k s
  rcases hm with hm | ⟨h7, hm⟩
  · have e1 : turn (pce k s) m e = turn [s0, s1, s2, s3] m e ++ (UInt8.ofNat (s.length % 256) :: UInt8.ofNat (s.length / 256 % 256) :: UInt8.ofNat k :: s) := by
      rw [hp]; exact turn_left (a := [s0, s1, s2, s3]) (by simpa using hm)
    have hl : (turn [s0, s1, s2, s3] m e).length = 4 := turn_len _ _ _
    have hne := turn_ne (l := [s0, s1, s2, s3]) (m := m) (by simpa using hm) he
    rw [e1]
    match hT : turn [s0, s1, s2, s3] m e, hl with
    | [t0, t1, t2, t3], hl4 =>
      simp only [List.cons_append, List.nil_append]
      rw [preadV_cells rfl hs, if_neg]
      rintro ⟨h, _⟩
      rw [← hb] at h
      rw [hT] at hne
      exact hne (big_inj4 hl4 rfl h.symm)
  · have e1 : turn (pce k s) m e = [s0, s1, s2, s3, UInt8.ofNat (s.length % 256), UInt8.ofNat (s.length / 256 % 256), UInt8.ofNat k] ++ turn s (m - 7) e := by
      rw [hp]; exact turn_right (a := [s0, s1, s2, s3, UInt8.ofNat (s.length % 256), UInt8.ofNat (s.length / 256 % 256), UInt8.ofNat k]) (by simpa using h7)
    rw [e1]
    simp only [List.cons_append, List.nil_append]
    rw [preadV_cells (turn_len s (m - 7) e) hs, if_neg]
    rintro ⟨h, _⟩
    rw [hb] at h
    have h2 := mask_inj (Crc.ofL_lt _) (Crc.ofL_lt _) h
    have e2 : UInt8.ofNat k :: turn s (m - 7) e = turn (UInt8.ofNat k :: s) (m - 7 + 1) e := (turn_succ _ _ _ _).symm
    rw [e2] at h2
    exact ofL_turned (by simp; omega) he h2
theorem pread_turned {P : List UInt8} {k m : Nat} {s : List UInt8} {e : UInt8} (hs : s.length ≤ roomOf P.length) (he : e ≠ 0) (hm : m < 4 ∨ (7 ≤ m ∧ m < 7 + s.length)) (R : List UInt8) :
    pread (P ++ (List.replicate (gapOf P.length) 0 ++ turn (pce k s) m e ++ R)) P.length = none := by
  have hr := roomOf_le P.length
  have e1 : (P ++ (List.replicate (gapOf P.length) 0 ++ turn (pce k s) m e ++ R)).drop P.length = List.replicate (gapOf P.length) 0 ++ turn (pce k s) m e ++ R := List.drop_left' rfl
  have e2 : (P ++ (List.replicate (gapOf P.length) 0 ++ turn (pce k s) m e ++ R)).drop (P.length + gapOf P.length) = turn (pce k s) m e ++ R := by
    rw [← List.drop_drop, e1, List.append_assoc]; exact List.drop_left' (by simp)
  have e3 : Lib.hasPrefix (List.replicate (gapOf P.length) 0 ++ turn (pce k s) m e ++ R) (List.replicate (gapOf P.length) 0) = true := by rw [List.append_assoc]; exact has_app _ _
  unfold pread
  rw [e1, e3, if_pos rfl, e2, List.take_append, List.take_of_length_le (by rw [turn_len, pce_len]; omega)]
  exact preadV_turned (by omega) he hm _
/-- Where the pieces of a record at a place begin. -/
def starts (p : Nat) (r : List UInt8) : List Nat :=
  if r.length ≤ roomOf p then [p + gapOf p] else (p + gapOf p) :: starts (p + gapOf p + 7 + roomOf p) (r.drop (roomOf p))
termination_by r.length + (if roomOf p = 0 then 1 else 0)
decreasing_by
  rw [List.length_drop, room_block (next_block p), if_neg (by decide)]
  split <;> omega
theorem starts_last {p : Nat} {r : List UInt8} (h : r.length ≤ roomOf p) : starts p r = [p + gapOf p] := by rw [starts, if_pos h]
theorem starts_more {p : Nat} {r : List UInt8} (h : roomOf p < r.length) : starts p r = (p + gapOf p) :: starts (p + gapOf p + 7 + roomOf p) (r.drop (roomOf p)) := by rw [starts, if_neg (by omega)]
theorem rec_turned (n : Nat) : ∀ (r P : List UInt8) (b : Bool) (acc : List UInt8) (m : Nat) (e : UInt8), r.length + (if roomOf P.length = 0 then 1 else 0) ≤ n → e ≠ 0 → m < (layAt P.length b r).length → gapOf P.length ≤ m →
    (∀ q ∈ starts P.length r, P.length + m ≠ q + 4 ∧ P.length + m ≠ q + 5 ∧ P.length + m ≠ q + 6) → recGo (P ++ turn (layAt P.length b r) m e) b P.length acc = none := by
  induction n with
  | zero =>
    intro r P b acc m e h he hm hg hq
    have hq0 := hq (P.length + gapOf P.length) (by rw [starts_last (by omega)]; simp)
    rw [layAt_last (by omega)] at hm ⊢
    rw [turn_right (by simpa using hg)]
    have := pread_turned (P := P) (k := kindOf b true) (m := m - gapOf P.length) (s := r) (e := e) (by omega) he (by simp [pce_len] at hm; omega) []
    rw [List.append_nil] at this
    refine rec_none ?_
    simpa using this
  | succ n ih =>
    intro r P b acc m e h he hm hg hq
    obtain ⟨k1, k2, k3, k4⟩ := kind_ends b
    by_cases hr : r.length ≤ roomOf P.length
    · have hq0 := hq (P.length + gapOf P.length) (by rw [starts_last hr]; simp)
      rw [layAt_last hr] at hm ⊢
      rw [turn_right (by simpa using hg)]
      have := pread_turned (P := P) (k := kindOf b true) (m := m - gapOf P.length) (s := r) (e := e) hr he (by simp [pce_len] at hm; omega) []
      rw [List.append_nil] at this
      refine rec_none ?_
      simpa using this
    · have hb := kindOf_lt b false
      have htl : (r.take (roomOf P.length)).length = roomOf P.length := by rw [List.length_take]; omega
      have hmo := layAt_more (p := P.length) (b := b) (r := r) (by omega)
      have hst := starts_more (p := P.length) (r := r) (by omega)
      obtain ⟨A, hA⟩ : ∃ A, A = List.replicate (gapOf P.length) (0 : UInt8) ++ pce (kindOf b false) (r.take (roomOf P.length)) := ⟨_, rfl⟩
      have hAl : A.length = gapOf P.length + (7 + (r.take (roomOf P.length)).length) := by rw [hA]; simp [pce_len]
      rw [← hA] at hmo
      rw [hmo] at hm ⊢
      by_cases hc : m < A.length
      · have hq0 := hq (P.length + gapOf P.length) (by rw [hst]; simp)
        rw [turn_left hc, hA, turn_right (by simpa using hg)]
        have := pread_turned (P := P) (k := kindOf b false) (m := m - gapOf P.length) (s := r.take (roomOf P.length)) (e := e) (by omega) he (by omega) (layAt (P.length + A.length) true (r.drop (roomOf P.length)))
        refine rec_none ?_
        rw [hA] at this
        rw [List.length_replicate]
        exact this
      · rw [turn_right (by omega)]
        have h1 := pread_laid (P := P) hb.1 hb.2 (s := r.take (roomOf P.length)) (by omega) (turn (layAt (P.length + A.length) true (r.drop (roomOf P.length))) (m - A.length) e)
        rw [← hA] at h1
        have hz : (P ++ A).length % 512 = 0 := by
          rw [List.length_append, hAl, htl]; have := next_block P.length; rw [show P.length + (gapOf P.length + (7 + roomOf P.length)) = P.length + gapOf P.length + 7 + roomOf P.length by omega]; exact this
        rw [rec_some (by simp) h1, if_pos k3, if_neg k4, show P.length + gapOf P.length + (7 + (r.take (roomOf P.length)).length) = (P ++ A).length by rw [List.length_append, hAl]; omega, ← List.append_assoc,
          show P.length + A.length = (P ++ A).length by rw [List.length_append]]
        refine ih _ (P ++ A) true _ _ _ ?_ he ?_ ?_ ?_
        · rw [room_block hz, List.length_drop]
          by_cases h0 : roomOf P.length = 0
          · simp [h0] at h ⊢; omega
          · simp [h0] at h ⊢; omega
        · rw [List.length_append] at hm ⊢
          omega
        · rw [gap_block hz]; omega
        · intro q hqm
          have := hq q (by rw [hst]; refine List.mem_cons_of_mem _ ?_; rw [show P.length + gapOf P.length + 7 + roomOf P.length = (P ++ A).length by rw [List.length_append, hAl, htl]; omega]; exact hqm)
          rw [List.length_append]
          omega
theorem rread_turned (P r : List UInt8) {m : Nat} {e : UInt8} (he : e ≠ 0) (hm : m < (lay P.length r).length) (hg : gapOf P.length ≤ m) (hq : ∀ q ∈ starts P.length r, P.length + m ≠ q + 4 ∧ P.length + m ≠ q + 5 ∧ P.length + m ≠ q + 6) :
    rread (P ++ turn (lay P.length r) m e) P.length = none := by
  unfold rread
  rw [lay_layAt] at hm ⊢
  exact rec_turned _ r P false [] m e (Nat.le_refl _) he hm hg hq
/-- the records ahead of a place are told, whatever follows -/
theorem recs_ahead : ∀ (l : List (List UInt8)) (P R : List UInt8), recs (logOf P l ++ R) P.length = l.zip (endsOf P l) ++ recs (logOf P l ++ R) (logOf P l).length
  | [], P, R => by simp [logOf, endsOf]
  | s :: l, P, R => by
    obtain ⟨X, hX⟩ := logOf_form l (P ++ lay P.length s)
    have ih := recs_ahead l (P ++ lay P.length s) R
    have hr := rread_laid P s (X ++ R)
    rw [show P ++ (lay P.length s ++ (X ++ R)) = logOf (P ++ lay P.length s) l ++ R by rw [hX]; simp] at hr
    rw [logOf, endsOf, recs_some hr, show P.length + (lay P.length s).length = (P ++ lay P.length s).length by simp, ih]
    rfl
theorem recs_turned (l : List (List UInt8)) (s : List UInt8) {m : Nat} {e : UInt8} (he : e ≠ 0) (hm : m < (lay (logOf [] l).length s).length) (hg : gapOf (logOf [] l).length ≤ m)
    (hq : ∀ q ∈ starts (logOf [] l).length s, (logOf [] l).length + m ≠ q + 4 ∧ (logOf [] l).length + m ≠ q + 5 ∧ (logOf [] l).length + m ≠ q + 6) :
    recs (logOf [] l ++ turn (lay (logOf [] l).length s) m e) 0 = l.zip (endsOf [] l) := by
  have h := recs_ahead l [] (turn (lay (logOf [] l).length s) m e)
  rw [recs_none (rread_turned _ s he hm hg hq), List.append_nil] at h
  exact h
end Go.Proofs.Ytindchneeflgfaa
