/-
  Many keys of two bytes, put in the order of odd steps: mathematics only. Conditions: as each theorem states.
-/
import Derived.Test.YtfbfclejegajpaaSkP
namespace Go.Proofs.Ytfbfclejegajpaa.Sk
open Go.RowKit

/-- the key of a number below 1024 -/
def key2 (x : Nat) : ByteArray := ⟨#[UInt8.ofNat (x / 256), UInt8.ofNat (x % 256)]⟩
theorem key2_inj {x y : Nat} (hx : x < 1024) (hy : y < 1024) (h : key2 x = key2 y) : x = y := by
  have h1 : (key2 x).data.toList = (key2 y).data.toList := by rw [h]
  simp [key2] at h1
  obtain ⟨a, b⟩ := h1
  have e1 := congrArg UInt8.toNat a
  have e2 := congrArg UInt8.toNat b
  simp at e1 e2
  omega
theorem key2_size (x : Nat) : (key2 x).size = 2 := rfl
theorem steps_apart {s i j : Nat} (hs : s % 2 = 1) (hij : i < j) (hj : j < i + 1024) : (i * s) % 1024 ≠ (j * s) % 1024 := by
  intro h
  have h1 : 1024 ∣ (j - i) * s := by
    have e : j * s = i * s + (j - i) * s := by rw [← Nat.add_mul]; congr 1; omega
    rw [e] at h
    generalize (j - i) * s = d at *
    exact Nat.dvd_of_mod_eq_zero (by omega)
  have hc : Nat.Coprime 1024 s := by
    have h2 : Nat.Coprime 2 s := by
      rw [Nat.coprime_iff_gcd_eq_one]
      have hd := Nat.gcd_dvd_left 2 s
      have hd2 := Nat.gcd_dvd_right 2 s
      have hle := Nat.le_of_dvd (by decide) hd
      have hpos := Nat.gcd_pos_of_pos_left s (show 0 < 2 by decide)
      rcases Nat.lt_or_ge (Nat.gcd 2 s) 2 with h3 | h3
      · omega
      · have : Nat.gcd 2 s = 2 := by omega
        rw [this] at hd2
        omega
    exact Nat.Coprime.pow_left 10 h2
  have h2 := hc.dvd_of_dvd_mul_right h1
  have := Nat.le_of_dvd (by omega) h2
  omega
def atN (s i : Nat) : Nat := (i * s) % 1024
theorem atN_lt (s i : Nat) : atN s i < 1024 := Nat.mod_lt _ (by decide)
theorem atN_succ (s i : Nat) : atN s (i + 1) = (atN s i + s) % 1024 := by
  unfold atN; rw [Nat.add_mul, Nat.one_mul]; omega
/-- the pairs behind i puts -/
def many (s : Nat) : Nat → List Pr
  | 0 => []
  | i + 1 => putL (many s i) (key2 (atN s (i + 1))) (key2 (atN s (i + 1)))
theorem mem_putL {P : List Pr} {k v : ByteArray} {x : Pr} (h : x ∈ putL P k v) : x = (k, v) ∨ x ∈ P := by
  unfold putL at h
  rcases List.mem_append.1 h with h | h
  · exact .inr (List.mem_filter.1 h).1
  · rcases List.mem_cons.1 h with h | h
    · exact .inl h
    · exact .inr (List.mem_filter.1 h).1
theorem many_mem (s : Nat) : ∀ i x, x ∈ many s i → ∃ j, 1 ≤ j ∧ j ≤ i ∧ x = (key2 (atN s j), key2 (atN s j))
  | 0, x, h => by cases h
  | i + 1, x, h => by
    rcases mem_putL h with h | h
    · exact ⟨i + 1, by omega, by omega, h⟩
    · obtain ⟨j, h1, h2, h3⟩ := many_mem s i x h
      exact ⟨j, h1, by omega, h3⟩
theorem filter_two {P : List Pr} {k : ByteArray} (h : ∀ x ∈ P, x.1 ≠ k) : (P.filter (fun x => lt x.1 k)).length + (P.filter (fun x => lt k x.1)).length = P.length ∧ total (P.filter (fun x => lt x.1 k)) + total (P.filter (fun x => lt k x.1)) = total P := by
  induction P with
  | nil => exact ⟨rfl, rfl⟩
  | cons x P ih =>
    obtain ⟨i1, i2⟩ := ih (fun y hy => h y (by simp [hy]))
    have hx := h x (by simp)
    cases e : lt x.1 k with
    | true =>
      have e2 := lt_anti e
      simp only [List.filter_cons, e, e2, ite_true, List.length_cons, total_cons]
      simp only [Bool.false_eq_true, ite_false]
      omega
    | false =>
      have e2 : lt k x.1 = true := by
        cases e2 : lt k x.1 with
        | true => rfl
        | false => exact absurd (lt_tri e e2) hx
      simp only [List.filter_cons, e, e2, ite_true, List.length_cons, total_cons]
      simp only [Bool.false_eq_true, ite_false]
      omega
theorem putL_fresh {P : List Pr} {k v : ByteArray} (h : ∀ x ∈ P, x.1 ≠ k) : (putL P k v).length = P.length + 1 ∧ total (putL P k v) = total P + (k.size + v.size) := by
  obtain ⟨h1, h2⟩ := filter_two h
  have e1 : (putL P k v).length = (P.filter (fun x => lt x.1 k)).length + ((P.filter (fun x => lt k x.1)).length + 1) := by
    show (P.filter (fun x => lt x.1 k) ++ (k, v) :: P.filter (fun x => lt k x.1)).length = _
    rw [List.length_append, List.length_cons]
  have e2 : total (putL P k v) = total (P.filter (fun x => lt x.1 k)) + (k.size + v.size + total (P.filter (fun x => lt k x.1))) := by
    show total (P.filter (fun x => lt x.1 k) ++ (k, v) :: P.filter (fun x => lt k x.1)) = _
    rw [total_app, total_cons]
  omega
theorem many_len {s : Nat} (hs : s % 2 = 1) : ∀ i, i ≤ 1000 → (many s i).length = i ∧ total (many s i) = 4 * i
  | 0, _ => ⟨rfl, rfl⟩
  | i + 1, hi => by
    obtain ⟨h1, h2⟩ := many_len hs i (by omega)
    obtain ⟨h3, h4⟩ := putL_fresh (P := many s i) (k := key2 (atN s (i + 1))) (v := key2 (atN s (i + 1))) (fun x hx e => by
      obtain ⟨j, j1, j2, rfl⟩ := many_mem s i x hx
      have := key2_inj (atN_lt _ _) (atN_lt _ _) e
      exact steps_apart hs (show j < i + 1 by omega) (by omega) this)
    rw [key2_size] at h4
    exact ⟨by show (putL _ _ _).length = _; omega, by show total (putL _ _ _) = _; omega⟩
/-- keys that rise, each its own value -/
def OwnUp (q : List Pr) : Prop := Srt q ∧ ∀ x ∈ q, x.2 = x.1
theorem many_own {s : Nat} {i : Nat} (h : Srt (many s i)) : OwnUp (many s i) := ⟨h, fun x hx => by
  obtain ⟨j, _, _, rfl⟩ := many_mem s i x hx
  rfl⟩
theorem own_prefix {q P : List Pr} (h : OwnUp P) (hq : q <+: P) : OwnUp q := ⟨h.1.sublist hq.sublist, fun x hx => h.2 x (hq.subset hx)⟩
theorem own_snoc {q : List Pr} {x : Pr} (h : OwnUp q) (hx : x.2 = x.1) (hl : ∀ y, q.getLast? = some y → lt y.1 x.1 = true) : OwnUp (q ++ [x]) := by
  refine ⟨?_, fun y hy => ?_⟩
  · unfold Srt
    rw [List.pairwise_append]
    refine ⟨h.1, List.pairwise_singleton _ _, fun y hy z hz => ?_⟩
    rw [List.mem_singleton.1 hz]
    rcases List.eq_nil_or_concat q with rfl | ⟨r, t, rfl⟩
    · cases hy
    · have ht := hl t (by simp)
      have hy' : y ∈ r ++ [t] := by simpa using hy
      rcases List.mem_append.1 hy' with hy' | hy'
      · have hs : Srt (r ++ [t]) := by simpa using h.1
        unfold Srt at hs
        rw [List.pairwise_append] at hs
        exact lt_trans (hs.2.2 y hy' t (by simp)) ht
      · rw [List.mem_singleton.1 hy']; exact ht
  · rcases List.mem_append.1 hy with hy | hy
    · exact h.2 y hy
    · rw [List.mem_singleton.1 hy]; exact hx
theorem own_snoc_inv {q : List Pr} {x : Pr} (h : OwnUp (q ++ [x])) : x.2 = x.1 ∧ ∀ y, q.getLast? = some y → lt y.1 x.1 = true := by
  refine ⟨h.2 x (by simp), fun y hy => ?_⟩
  have hs := h.1
  unfold Srt at hs
  rw [List.pairwise_append] at hs
  exact hs.2.2 y (List.mem_of_getLast? hy) x (by simp)
end Go.Proofs.Ytfbfclejegajpaa.Sk
