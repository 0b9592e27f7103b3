/-
  What a log's records tell: mathematics. Conditions: as each theorem states.
-/
import Derived.Test.YtdkgieaanpfhcaaGreatDoorGaBa
import Derived.Test.YtdkgieaanpfhcaaGreatDoorFrH
namespace Go.Proofs.YtdkgieaanpfhcaaGreatDoor.Wa
open Go.Proofs.YtdkgieaanpfhcaaGreatDoor
open Vi Ba

/-- a batch: its number, its changes -/
structure Bat where
  seq : Nat
  l : List Chg
instance : Inhabited Bat := ⟨⟨0, []⟩⟩
def Bat.next (b : Bat) : Nat := b.seq + b.l.length
/-- what records tell, the number behind the last batch being n -/
def tell : Nat → List RecX → List Bat
  | _, [] => []
  | n, r :: rs => if (parse r.1).2.2 = 0 ∧ n ≤ (parse r.1).2.1 then ⟨(parse r.1).2.1, (parse r.1).1⟩ :: tell ((parse r.1).2.1 + (parse r.1).1.length) rs else []
theorem parse_good {L : List UInt8} (h : (parse L).2.2 = 0) : chkB (parse L).2.1 (parse L).1 = 0 := by
  unfold parse at h ⊢
  split at h
  · rename_i h1
    rw [if_pos h1]
    split at h
    · rename_i h2
      rw [if_pos h2]; exact h2
    · rename_i h2
      exact absurd h h2
  · rename_i h1
    exact absurd h h1
theorem parse_bd {L : List UInt8} (h : (parse L).2.2 = 0) : (parse L).1.length ≤ 2000 ∧ (parse L).2.1 ≤ 72057594037927935 := by
  have h1 := chkB_ok.1 (parse_good h)
  exact ⟨h1.1, h1.2.2.1⟩
theorem tell_nil (n : Nat) : tell n [] = [] := rfl
theorem tell_on {n : Nat} {r : RecX} {rs : List RecX} (h1 : (parse r.1).2.2 = 0) (h2 : n ≤ (parse r.1).2.1) : tell n (r :: rs) = ⟨(parse r.1).2.1, (parse r.1).1⟩ :: tell ((parse r.1).2.1 + (parse r.1).1.length) rs := by
  rw [tell, if_pos ⟨h1, h2⟩]
theorem tell_off {n : Nat} {r : RecX} {rs : List RecX} (h : ¬ ((parse r.1).2.2 = 0 ∧ n ≤ (parse r.1).2.1)) : tell n (r :: rs) = [] := by
  rw [tell, if_neg h]
theorem tell_bd : ∀ {rs : List RecX} {n : Nat}, ∀ b ∈ tell n rs, b.l.length ≤ 2000 ∧ b.seq ≤ 72057594037927935
  | [], _, b, h => by cases h
  | r :: rs, n, b, h => by
    by_cases hc : (parse r.1).2.2 = 0 ∧ n ≤ (parse r.1).2.1
    · rw [tell_on hc.1 hc.2] at h
      rcases List.mem_cons.1 h with rfl | h
      · exact parse_bd hc.1
      · exact tell_bd b h
    · rw [tell_off hc] at h; cases h
theorem tell_len : ∀ (rs : List RecX) (n : Nat), (tell n rs).length ≤ rs.length
  | [], _ => Nat.le_refl _
  | r :: rs, n => by
    by_cases hc : (parse r.1).2.2 = 0 ∧ n ≤ (parse r.1).2.1
    · rw [tell_on hc.1 hc.2]
      have := tell_len rs ((parse r.1).2.1 + (parse r.1).1.length)
      simp; omega
    · rw [tell_off hc]; simp
end Go.Proofs.YtdkgieaanpfhcaaGreatDoor.Wa
