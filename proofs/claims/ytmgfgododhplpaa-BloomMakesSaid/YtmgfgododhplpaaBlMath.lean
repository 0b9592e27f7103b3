/-
  Plain mathematics of filters: a key's places, marks, filters. No condition.
-/
import Derived.Test.YtmgfgododhplpaaCrMath
namespace Go.Proofs.Ytmgfgododhplpaa.Bl

def plc (key : List UInt8) (bits i : Nat) : Nat := (Crc.ofL key + i * Crc.ofL (key ++ [7]) + i * i) % 4294967296 % bits
def plcs (key : List UInt8) (bits : Nat) : List Nat := [plc key bits 0, plc key bits 1, plc key bits 2, plc key bits 3, plc key bits 4, plc key bits 5]
def bitN (p : Nat) : Nat := 2 ^ (p % 8)
def has (F : List UInt8) (p : Nat) : Bool := (F.getD (p / 8) 0).toNat.testBit (p % 8)
def mark (F : List UInt8) (p : Nat) : List UInt8 := F.set (p / 8) (UInt8.ofNat ((F.getD (p / 8) 0).toNat ||| bitN p))
def marks (F : List UInt8) (ps : List Nat) : List UInt8 := ps.foldl mark F
def bitsOf (n : Nat) : Nat := (max (n * 10) 64 + 7) / 8 * 8
def mkGo (bits : Nat) (F : List UInt8) (keys : List (List UInt8)) : List UInt8 := keys.foldl (fun F k => marks F (plcs k bits)) F
def mk (keys : List (List UInt8)) : List UInt8 := mkGo (bitsOf keys.length) (List.replicate (bitsOf keys.length / 8) 0) keys
def may (F key : List UInt8) : Bool := F.isEmpty || (plcs key (F.length * 8)).all (has F)

theorem plcs_len (key : List UInt8) (bits : Nat) : (plcs key bits).length = 6 := rfl
theorem plcs_at (key : List UInt8) (bits i : Nat) (h : i < 6) : (plcs key bits)[i]'h = plc key bits i := by
  match i, h with
  | 0, _ => rfl
  | 1, _ => rfl
  | 2, _ => rfl
  | 3, _ => rfl
  | 4, _ => rfl
  | 5, _ => rfl
theorem plc_lt (key : List UInt8) {bits : Nat} (h : 0 < bits) (i : Nat) : plc key bits i < bits := Nat.mod_lt _ h
theorem plcs_lt (key : List UInt8) {bits : Nat} (h : 0 < bits) : ∀ p ∈ plcs key bits, p < bits := by
  intro p hp
  simp only [plcs, List.mem_cons, List.not_mem_nil, or_false] at hp
  rcases hp with rfl | rfl | rfl | rfl | rfl | rfl <;> exact plc_lt key h _
theorem bitN_lt (p : Nat) : bitN p < 256 := by
  unfold bitN
  have : 2 ^ (p % 8) ≤ 2 ^ 7 := Nat.pow_le_pow_right (by decide) (by omega)
  omega
theorem or_lt (c : UInt8) (p : Nat) : c.toNat ||| bitN p < 256 := Nat.or_lt_two_pow (n := 8) c.toNat_lt (bitN_lt p)
theorem mark_len (F : List UInt8) (p : Nat) : (mark F p).length = F.length := by simp [mark]
theorem marks_len : ∀ (ps : List Nat) (F : List UInt8), (marks F ps).length = F.length
  | [], F => rfl
  | p :: ps, F => by show (marks (mark F p) ps).length = _; rw [marks_len ps, mark_len]
theorem mkGo_len (bits : Nat) : ∀ (keys : List (List UInt8)) (F : List UInt8), (mkGo bits F keys).length = F.length
  | [], F => rfl
  | k :: keys, F => by show (mkGo bits (marks F (plcs k bits)) keys).length = _; rw [mkGo_len bits keys, marks_len]
theorem mk_len (keys : List (List UInt8)) : (mk keys).length = bitsOf keys.length / 8 := by rw [mk, mkGo_len]; simp
theorem bitsOf_pos (n : Nat) : 64 ≤ bitsOf n := by unfold bitsOf; omega
theorem bitsOf_div (n : Nat) : bitsOf n / 8 * 8 = bitsOf n := by unfold bitsOf; omega
theorem mk_bits (keys : List (List UInt8)) : (mk keys).length * 8 = bitsOf keys.length := by rw [mk_len, bitsOf_div]
theorem has_mark (F : List UInt8) (p q : Nat) (h : p / 8 < F.length) : has (mark F p) q = (decide (q = p) || has F q) := by
  unfold has mark
  by_cases e : q / 8 = p / 8
  · rw [e, List.getD_eq_getElem?_getD, List.getElem?_set_self h]
    have e2 : (UInt8.ofNat ((F.getD (p / 8) 0).toNat ||| bitN p)).toNat = (F.getD (p / 8) 0).toNat ||| bitN p := by
      have := or_lt (F.getD (p / 8) 0) p
      rw [UInt8.toNat_ofNat']; exact Nat.mod_eq_of_lt this
    rw [Option.getD_some, e2, Nat.testBit_or, bitN, Nat.testBit_two_pow]
    rw [Bool.or_comm]
    congr 1
    rw [Bool.eq_iff_iff]; simp; omega
  · rw [List.getD_eq_getElem?_getD, List.getElem?_set_ne (by omega), ← List.getD_eq_getElem?_getD]
    have : decide (q = p) = false := by simp; intro e'; exact e (by rw [e'])
    rw [this, Bool.false_or]
theorem has_marks : ∀ (ps : List Nat) (F : List UInt8) (q : Nat), (∀ p ∈ ps, p / 8 < F.length) → has (marks F ps) q = (ps.contains q || has F q)
  | [], F, q, _ => by simp [marks]
  | p :: ps, F, q, h => by
    show has (marks (mark F p) ps) q = _
    rw [has_marks ps (mark F p) q (fun x hx => by rw [mark_len]; exact h x (by simp [hx])), has_mark F p q (h p (by simp))]
    rw [List.contains_cons]
    have e : (q == p) = decide (q = p) := rfl
    rw [e]
    cases decide (q = p) <;> cases ps.contains q <;> cases has F q <;> rfl
theorem has_mkGo (bits : Nat) (h0 : 0 < bits) : ∀ (keys : List (List UInt8)) (F : List UInt8) (q : Nat), bits ≤ F.length * 8 →
    has (mkGo bits F keys) q = (keys.any (fun k => (plcs k bits).contains q) || has F q)
  | [], F, q, _ => by simp [mkGo]
  | k :: keys, F, q, hF => by
    show has (mkGo bits (marks F (plcs k bits)) keys) q = _
    rw [has_mkGo bits h0 keys _ q (by rw [marks_len]; exact hF), has_marks _ _ _ (fun p hp => by have := plcs_lt k h0 p hp; omega), List.any_cons]
    cases (keys.any fun k => (plcs k bits).contains q) <;> cases (plcs k bits).contains q <;> cases has F q <;> rfl
theorem has_zero (n q : Nat) : has (List.replicate n 0) q = false := by
  unfold has
  rw [List.getD_eq_getElem?_getD, List.getElem?_replicate]
  split <;> simp
theorem has_mk (keys : List (List UInt8)) (q : Nat) : has (mk keys) q = keys.any (fun k => (plcs k (bitsOf keys.length)).contains q) := by
  have h := bitsOf_pos keys.length
  rw [mk, has_mkGo _ (by omega) _ _ _ (by simp; have := bitsOf_div keys.length; omega), has_zero, Bool.or_false]
theorem mk_ne (keys : List (List UInt8)) : (mk keys).isEmpty = false := by
  have h := mk_len keys
  have := bitsOf_pos keys.length
  cases e : mk keys with
  | nil => rw [e] at h; simp at h; omega
  | cons => rfl
theorem may_mk (keys : List (List UInt8)) (key : List UInt8) : may (mk keys) key = (plcs key (bitsOf keys.length)).all (has (mk keys)) := by
  rw [may, mk_ne, Bool.false_or, mk_bits]
/-- Each key that a filter was made of may be there. -/
theorem may_in (keys : List (List UInt8)) (key : List UInt8) (h : key ∈ keys) : may (mk keys) key = true := by
  rw [may_mk, List.all_eq_true]
  intro p hp
  rw [has_mk, List.any_eq_true]
  exact ⟨key, h, by simpa using hp⟩
/-- What may be there by one filter may by one of more keys of as many bits. -/
theorem may_more (keys some : List (List UInt8)) (key : List UInt8) (hl : some.length = keys.length) (h : ∀ k ∈ some, k ∈ keys) (hm : may (mk some) key = true) : may (mk keys) key = true := by
  rw [may_mk, List.all_eq_true] at *
  intro p hp
  rw [hl] at hm
  have := hm p hp
  rw [has_mk, List.any_eq_true] at *
  obtain ⟨k, hk, h2⟩ := this
  exact ⟨k, h k hk, by rw [hl] at h2; exact h2⟩
end Go.Proofs.Ytmgfgododhplpaa.Bl
