/-
  Light and the example of the law's package on batches: the Go text walked. Conditions: as each theorem states.
-/
import Derived.Test.YtbolklpdbckefaaBaF
namespace Go.Proofs.Ytbolklpdbckefaa.Ba
open Go.RowKit
open Go.Proofs.Ytbolklpdbckefaa
open Vi

def okC (n : Nat) (a : Chg) : Prop := n ≤ 60 ∧ a.key.size ≤ 300 ∧ a.value.size ≤ 4200
theorem first_bad {l : List Chg} {n : Nat} (h : ¬ ∀ a ∈ l, okC n a) : ∃ k, ∃ hk : k < l.length, ¬ okC n l[k] ∧ ∀ i (hi : i < l.length), i < k → okC n l[i] := by
  induction l with
  | nil => exact absurd (fun s hs => by cases hs) h
  | cons x l ih =>
    by_cases hx : okC n x
    · obtain ⟨k, hk, h1, h2⟩ := ih (fun h' => h (fun s hs => by
        rcases List.mem_cons.1 hs with rfl | hs
        · exact hx
        · exact h' s hs))
      refine ⟨k + 1, by simp; omega, by simpa using h1, fun i hi hlt => ?_⟩
      match i with
      | 0 => simpa using hx
      | i + 1 => simpa using h2 i (by simpa using hi) (by omega)
    · exact ⟨0, by simp, by simpa using hx, fun i hi hlt => by omega⟩
theorem light_all {w : World} {A : Option Addr} {c : Nat} {l : List Chg} (RA : CRow w A l) (hl : l.length ≤ 9223372036854775807) (h : ∀ a ∈ l, okC l.length a) :
    Calls Try.prog 5 #[.slice A l.length c] w (BoPost w true) := by
  replace RA := Lib.hid RA
  have HO := Lib.hid h
  clear h
  go_enter Try.func5, Try.ntmps5
  go_wp2
  go_loopw [7] (LiRel w l.length) (fun i _ => l.length - (intOf i).toNat)
  case atStart => exact ⟨0, by omega, rfl, Below.refl _ _⟩
  case round =>
    obtain ⟨j, hj, rfl, hb⟩ := hrel
    by_cases hlt : j < l.length
    · obtain ⟨a, rfl, hab, hca⟩ := (RA.out.on hb) (by omega)
      obtain ⟨x0, x1, x2⟩ := hca j hlt
      obtain ⟨o1, o2, o3⟩ := HO.out l[j] (List.getElem_mem hlt)
      clear hca
      generalize l[j] = y at *
      go_wp2
      go_roundw
      case rel => exact ⟨j + 1, by omega, by go_num, hb.alloc hb.size _⟩
      case measure => simp [intOf]; omega
    · go_wp2
      go_ret
      exact ⟨rfl, hb⟩
theorem light_bad {w : World} {A : Option Addr} {c : Nat} {l : List Chg} (RA : CRow w A l) (hl : l.length ≤ 9223372036854775807) (hsz : ∀ p ∈ l, p.small) (h : ¬ ∀ a ∈ l, okC l.length a) :
    Calls Try.prog 5 #[.slice A l.length c] w (BoPost w false) := by
  obtain ⟨k, hk, hbad, hgood⟩ := first_bad h
  replace RA := Lib.hid RA
  have HO := Lib.hid (And.intro hbad (And.intro hgood hsz))
  clear h hbad hgood hsz
  go_enter Try.func5, Try.ntmps5
  go_wp2
  go_loopw [7] (LiRel w k) (fun i _ => l.length - (intOf i).toNat)
  case atStart => exact ⟨0, by omega, rfl, Below.refl _ _⟩
  case round =>
    obtain ⟨j, hj, rfl, hb⟩ := hrel
    obtain ⟨a, rfl, hab, hca⟩ := (RA.out.on hb) (by omega)
    obtain ⟨x0, x1, x2⟩ := hca j (by omega)
    clear hca
    have hjl : j < l.length := by omega
    by_cases hlt : j < k
    · obtain ⟨o1, o2, o3⟩ := HO.out.2.1 j (by omega) hlt
      generalize l[j]'(by omega) = y at *
      go_wp2
      go_roundw
      case rel => exact ⟨j + 1, by omega, by go_num, hb.alloc hb.size _⟩
      case measure => simp [intOf]; omega
    · obtain rfl : j = k := by omega
      have hbd := HO.out.1
      obtain ⟨z1, z2⟩ := HO.out.2.2 _ (List.getElem_mem hk)
      unfold okC at hbd
      have hbd' : 60 < l.length ∨ (l.length ≤ 60 ∧ 300 < l[j].key.size) ∨ (l.length ≤ 60 ∧ l[j].key.size ≤ 300 ∧ 4200 < l[j].value.size) := by omega
      clear hbd
      generalize l[j] = y at *
      rcases hbd' with o1 | ⟨o1, o2⟩ | ⟨o1, o2, o3⟩
      all_goals
        go_wp2
        go_ret
        exact ⟨rfl, hb.alloc hb.size _⟩
theorem crow_nil (w : World) (A : Option Addr) : CRow w A [] := fun h => by simp at h
theorem next_five (w : World) : Calls Try.prog 9 #[.agg #[.int .u64 5, .slice none 0 0]] w fun e w' => e = .returned (.int .u64 5) ∧ Below w.heap.size w w' := by
  go_enter Try.func9, Try.ntmps9
  go_wp2
  go_ret
  exact ⟨rfl, (Below.refl _ _).alloc (Nat.le_refl _) _⟩
theorem bb_five : bb 5 [] = [5, 0, 0, 0, 0, 0, 0, 0, 0] := by
  unfold bb
  rw [show vnum ([] : List Chg).length = [0] from vnum_small (by decide)]
  simp only [little_succ, little_zero]
  rfl
theorem awake_any (w : World) : Calls Try.prog 4 #[] w (BoPost w true) := by
  have HB := fun w => bytes_ok 5 (c := 0) (crow_nil w none) (fun p hp => by cases hp) (show chkB 5 [] = 0 by decide)
  rw [bb_five] at HB
  replace HB : Hid (∀ w : World, Calls Try.prog 6 #[.agg #[.int .u64 5, .slice none 0 0]] w (ByPost w [5, 0, 0, 0, 0, 0, 0, 0, 0] 0)) := HB
  have hbl := bs_list
  go_enter Try.func4, Try.ntmps4
  go_wp2_with (first
    | (go_at_call 6; (with_reducible refine (HB.out _).mono ?_); rintro e w2 ⟨rfl, hb2⟩)
    | (go_at_call 9; (with_reducible refine (next_five _).mono ?_); rintro e w3 ⟨rfl, hb3⟩))
  go_ret
  exact ⟨rfl, hb2.trans (hb3.mono hb2.size)⟩
end Go.Proofs.Ytbolklpdbckefaa.Ba
