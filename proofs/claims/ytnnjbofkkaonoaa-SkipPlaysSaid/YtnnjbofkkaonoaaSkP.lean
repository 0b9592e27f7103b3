/-
  Light, and two rows of pairs that are alike: the Go text walked. Conditions: as each theorem states.
-/
import Derived.Test.YtnnjbofkkaonoaaSkO
namespace Go.Proofs.Ytnnjbofkkaonoaa.Sk
open Go.RowKit

theorem arow_on {W W' : World} {ao : Option Addr} {l : List Ac} (h : Hid (ARow W ao l)) (hb : Below W.heap.size W W') : Hid (ARow W' ao l) := fun h0 => by
  obtain ⟨a, rfl, h1, h2⟩ := h.out h0
  exact (h.out.kept (B := W.heap.size) (fun x hx => by injection hx with hx; subst hx; exact h1) hb hb.size) h0
theorem nrow_on {W W' : World} {ao : Option Addr} {l : List Int} (h : Hid (NRow W ao l)) (hb : Below W.heap.size W W') : Hid (NRow W' ao l) := fun h0 => by
  obtain ⟨a, rfl, h1, h2⟩ := h.out h0
  exact (h.out.kept (B := W.heap.size) (fun x hx => by injection hx with hx; subst hx; exact h1) hb hb.size) h0
def okA (n m : Nat) (a : Ac) : Prop := n ≤ m ∧ a.key.size ≤ 300 ∧ a.value.size ≤ 300
def LightW (w : World) (b : Bool) (e : Ending) (w' : World) : Prop := e = .returned (.bool b) ∧ Below w.heap.size w w'
theorem first_bad {l : List Ac} {n m : Nat} (h : ¬ ∀ a ∈ l, okA n m a) : ∃ k, ∃ hk : k < l.length, ¬ okA n m l[k] ∧ ∀ i (hi : i < l.length), i < k → okA n m l[i] := by
  induction l with
  | nil => exact absurd (fun s hs => by cases hs) h
  | cons x l ih =>
    by_cases hx : okA n m x
    · obtain ⟨k, hk, h1, h2⟩ := ih (fun h' => h (fun s hs => by
        rcases List.mem_cons.1 hs with rfl | hs
        · exact hx
        · exact h' s hs))
      refine ⟨k + 1, by simp; omega, by simpa using h1, fun i hi hlt => ?_⟩
      match i with
      | 0 => simpa using hx
      | i + 1 => simpa using h2 i (by simpa using hi) (by omega)
    · exact ⟨0, by simp, by simpa using hx, fun i hi hlt => by omega⟩
def LiRel (w : World) (k : Nat) (i : Value) (wr : World) : Prop := ∃ j : Nat, j ≤ k ∧ i = .int .i64 (j : Nat) ∧ Below w.heap.size w wr
theorem light_all {w : World} {A : Option Addr} {c : Nat} {l : List Ac} {m : Nat} {mi : Int} (hmi : mi = (m : Nat)) (RA : Hid (ARow w A l)) (hl : l.length ≤ 9223372036854775807) (hm : m ≤ 1000) (h : ∀ a ∈ l, okA l.length m a) :
    Calls Try.prog 5 #[.slice A l.length c, .int .i64 mi] w (LightW w true) := by
  subst hmi
  have HO := Lib.hid h
  clear h
  go_enter Try.func5, Try.ntmps5
  go_wp2
  go_loopw [9] (LiRel w l.length) (fun i _ => l.length - (intOf i).toNat)
  case atStart => exact ⟨0, by omega, rfl, Below.refl _ _⟩
  case round =>
    obtain ⟨j, hj, rfl, hb⟩ := hrel
    by_cases hlt : j < l.length
    · obtain ⟨a, rfl, hab, hca⟩ := RA.out (by omega)
      obtain ⟨x0, x1, x2⟩ := hca j hlt
      obtain ⟨o1, o2, o3⟩ := HO.out l[j] (List.getElem_mem hlt)
      have hbl : (a.add (j * 3)).block < w.heap.size := by rw [block_add]; exact hab
      rw [← hb.cell (p := a.add (j * 3)) hbl] at x0
      rw [← hb.cell (p := ⟨(a.add (j * 3)).block, (a.add (j * 3)).off + 1, none⟩) hbl] at x1
      rw [← hb.cell (p := ⟨(a.add (j * 3)).block, (a.add (j * 3)).off + 2, none⟩) hbl] at x2
      clear hca
      generalize l[j] = y at *
      go_wp2
      go_roundw
      case rel => exact ⟨j + 1, by omega, by go_num, hb.alloc hb.size _⟩
      case measure => simp [intOf]; omega
    · go_wp2
      go_ret
      exact ⟨rfl, hb⟩
theorem light_bad {w : World} {A : Option Addr} {c : Nat} {l : List Ac} {m : Nat} {mi : Int} (hmi : mi = (m : Nat)) (RA : Hid (ARow w A l)) (hl : l.length ≤ 9223372036854775807) (hm : m ≤ 1000) (hsz : ∀ p ∈ l, p.key.size ≤ 9223372036854775807 ∧ p.value.size ≤ 9223372036854775807) (h : ¬ ∀ a ∈ l, okA l.length m a) :
    Calls Try.prog 5 #[.slice A l.length c, .int .i64 mi] w (LightW w false) := by
  subst hmi
  obtain ⟨k, hk, hbad, hgood⟩ := first_bad h
  have HO := Lib.hid (And.intro hbad (And.intro hgood hsz))
  clear h hbad hgood hsz
  go_enter Try.func5, Try.ntmps5
  go_wp2
  go_loopw [9] (LiRel w k) (fun i _ => l.length - (intOf i).toNat)
  case atStart => exact ⟨0, by omega, rfl, Below.refl _ _⟩
  case round =>
    obtain ⟨j, hj, rfl, hb⟩ := hrel
    obtain ⟨a, rfl, hab, hca⟩ := RA.out (by omega)
    obtain ⟨x0, x1, x2⟩ := hca j (by omega)
    have hbl : (a.add (j * 3)).block < w.heap.size := by rw [block_add]; exact hab
    rw [← hb.cell (p := a.add (j * 3)) hbl] at x0
    rw [← hb.cell (p := ⟨(a.add (j * 3)).block, (a.add (j * 3)).off + 1, none⟩) hbl] at x1
    rw [← hb.cell (p := ⟨(a.add (j * 3)).block, (a.add (j * 3)).off + 2, none⟩) hbl] at x2
    clear hca
    have hjl : j < l.length := by omega
    by_cases hlt : j < k
    · obtain ⟨o1, o2, o3⟩ := HO.out.2.1 j (by omega) hlt
      generalize l[j]'(by omega) = y at *
      go_wp2
      go_roundw
      case rel => exact ⟨j + 1, by omega, by go_num, hb.alloc hb.size _⟩
      case measure => simp [intOf]; omega
    · obtain rfl : j = k := by omega
      have hbd := HO.out.1
      obtain ⟨z1, z2⟩ := HO.out.2.2 _ (List.getElem_mem hk)
      unfold okA at hbd
      have hbd' : m < l.length ∨ (l.length ≤ m ∧ 300 < l[j].key.size) ∨ (l.length ≤ m ∧ l[j].key.size ≤ 300 ∧ 300 < l[j].value.size) := by omega
      clear hbd
      generalize l[j] = y at *
      rcases hbd' with o1 | ⟨o1, o2⟩ | ⟨o1, o2, o3⟩
      all_goals
        go_wp2
        go_ret
        exact ⟨rfl, hb.alloc hb.size _⟩
/-! rows of pairs -/
theorem prRow_at {q : List Pr} {j : Nat} (h : j < q.length) : (prRow q)[j * 2]? = some (.string q[j].1) ∧ (prRow q)[j * 2 + 1]? = some (.string q[j].2) := by
  induction q generalizing j with
  | nil => simp at h
  | cons x q ih =>
    match j with
    | 0 => exact ⟨rfl, rfl⟩
    | j + 1 =>
      have := ih (j := j) (by simpa using h)
      have e1 : (j + 1) * 2 = j * 2 + 2 := by omega
      have e2 : (j + 1) * 2 + 1 = (j * 2 + 1) + 2 := by omega
      have hp : prRow (x :: q) = .string x.1 :: .string x.2 :: prRow q := rfl
      rw [hp, e1]
      exact this
set_option maxHeartbeats 1000000 in
theorem same_yes {w : World} {b1 b2 : Nat} {va vb : Value} {q : List Pr} (ha : w.ownsRow b1 35 2 va q.length (prRow q)) (hb : w.ownsRow b2 35 2 vb q.length (prRow q)) (hq : q.length ≤ 100000) :
    Calls Try.prog 18 #[va, vb] w (LightW w true) := by
  obtain ⟨aa, ac, rfl⟩ := row_slice ha
  obtain ⟨ba_, bc, rfl⟩ := row_slice hb
  have HA := Lib.hid ha
  have HB := Lib.hid hb
  clear ha hb
  go_enter Try.func18, Try.ntmps18
  go_wp2
  go_loopw [13] (LiRel w q.length) (fun i _ => q.length - (intOf i).toNat)
  case atStart => exact ⟨0, by omega, rfl, Below.refl _ _⟩
  case round =>
    obtain ⟨j, hj, rfl, hbw⟩ := hrel
    by_cases hlt : j < q.length
    · obtain ⟨g, cap, e, _, hg, hc⟩ := rowCells HA.out (by omega)
      obtain ⟨g', cap', e', _, hg', hc'⟩ := rowCells HB.out (by omega)
      simp only [Value.slice.injEq] at e e'
      obtain ⟨rfl, _, rfl⟩ := e
      obtain ⟨rfl, _, rfl⟩ := e'
      obtain ⟨p0, p1⟩ := prRow_at hlt
      have x0 := (hbw.cell (p := ⟨g, j * 2, none⟩) hg).trans (hc _ _ p0)
      have x1 := (hbw.cell (p := ⟨g, j * 2 + 1, none⟩) hg).trans (hc _ _ p1)
      have y0 := (hbw.cell (p := ⟨g', j * 2, none⟩) hg').trans (hc' _ _ p0)
      have y1 := (hbw.cell (p := ⟨g', j * 2 + 1, none⟩) hg').trans (hc' _ _ p1)
      clear hc hc' p0 p1
      generalize q[j] = y at *
      go_wp2
      go_region
      all_goals go_wp2
      all_goals exact ⟨⟨j + 1, by omega, by go_num, hbw.trans (below_drew _ _)⟩, by simp [intOf]; omega⟩
    · go_wp2
      go_ret
      exact ⟨rfl, hbw⟩
end Go.Proofs.Ytnnjbofkkaonoaa.Sk
