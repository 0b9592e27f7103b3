/-
  The Go text of batches, walked: whether two are the same. Conditions: as each theorem states.
-/
import Derived.Test.YtbolklpdbckefaaBaE
namespace Go.Proofs.Ytbolklpdbckefaa.Ba
open Go.RowKit
open Go.Proofs.Ytbolklpdbckefaa
open Vi

theorem neq_chg (c : Chg) (w : World) : (binOp .neq 35 (.agg #[.int .i64 c.kind, .string c.key, .string c.value]) (.agg #[.int .i64 c.kind, .string c.key, .string c.value])).run Try.prog w = .ok (.bool false) w := by
  go_simp
def BoPost (w : World) (b : Bool) (e : Ending) (w' : World) : Prop := e = .returned (.bool b) ∧ Below w.heap.size w w'
def LiRel (w : World) (k : Nat) (i : Value) (wr : World) : Prop := ∃ j : Nat, j ≤ k ∧ i = .int .i64 (j : Nat) ∧ Below w.heap.size w wr
theorem equal_len {w : World} {A A2 : Option Addr} {c c2 : Nat} {n m : Nat} (hn : n ≤ 9223372036854775807) (hm : m ≤ 9223372036854775807) (h : n ≠ m) :
    Calls Try.prog 24 #[.slice A n c, .slice A2 m c2] w (BoPost w false) := by
  have h1 : ((n : Int) == (m : Int)) = false := by simp; omega
  have h2 : ((n : Int) != (m : Int)) = true := by simp [bne, h1]
  go_enter Try.func24, Try.ntmps24
  go_wp2
  go_ret
  exact ⟨rfl, Below.refl _ _⟩
set_option maxHeartbeats 1000000 in
theorem equal_yes {w : World} {A A2 : Option Addr} {c c2 : Nat} {l : List Chg} (hl : l.length ≤ 100000) (ha : CRow w A l) (hb : CRow w A2 l) :
    Calls Try.prog 24 #[.slice A l.length c, .slice A2 l.length c2] w (BoPost w true) := by
  replace ha := Lib.hid ha
  replace hb := Lib.hid hb
  go_enter Try.func24, Try.ntmps24
  go_wp2
  go_loopw [13] (LiRel w l.length) (fun i _ => l.length - (intOf i).toNat)
  case atStart => exact ⟨0, by omega, rfl, Below.refl _ _⟩
  case round =>
    obtain ⟨j, hj, rfl, hbw⟩ := hrel
    by_cases hlt : j < l.length
    · obtain ⟨a, rfl, hab, hca⟩ := (ha.out.on hbw) (by omega)
      obtain ⟨x0, x1, x2⟩ := hca j hlt
      obtain ⟨a2, rfl, hab2, hca2⟩ := (hb.out.on hbw) (by omega)
      obtain ⟨y0, y1, y2⟩ := hca2 j hlt
      clear hca hca2
      have hnp := neq_chg l[j]
      generalize l[j] = y at *
      go_wp2
      go_region
      all_goals go_wp2
      all_goals exact ⟨⟨j + 1, by omega, by go_num, hbw.trans ⟨rfl, rfl, rfl, Nat.le_refl _, fun _ _ => rfl⟩⟩, by simp [intOf]; omega⟩
    · go_wp2
      go_ret
      exact ⟨rfl, hbw⟩
theorem two_below {w w2 : World} {o1 o2 : Obj} (h : Below ((w.alloc o1).alloc o2).heap.size ((w.alloc o1).alloc o2) w2) : Below w.heap.size w w2 :=
  (((Below.refl _ _).alloc (Nat.le_refl _) _).alloc (by simp) _).trans (h.mono (by simp; omega))
theorem crow_two {w : World} {A : Option Addr} {l : List Chg} (h : CRow w A l) (o1 o2 : Obj) : CRow ((w.alloc o1).alloc o2) A l :=
  h.on (((Below.refl _ _).alloc (Nat.le_refl _) _).alloc (by simp) _)
theorem same_seq {w : World} {va vb : Value} {x y : Nat} (h : x ≠ y) :
    Calls Try.prog 8 #[.agg #[.int .u64 x, va], .agg #[.int .u64 y, vb]] w (BoPost w false) := by
  have h1 : ((x : Int) == (y : Int)) = false := by simp; omega
  go_enter Try.func8, Try.ntmps8
  go_wp2
  go_ret
  exact ⟨rfl, ((Below.refl _ _).alloc (Nat.le_refl _) _).alloc (by simp) _⟩
theorem same_of {w : World} {va vb : Value} {x : Nat} {b : Bool} (h : ∀ o1 o2, Calls Try.prog 24 #[va, vb] ((w.alloc o1).alloc o2) (BoPost ((w.alloc o1).alloc o2) b)) :
    Calls Try.prog 8 #[.agg #[.int .u64 x, va], .agg #[.int .u64 x, vb]] w (BoPost w b) := by
  replace h := Lib.hid h
  go_enter Try.func8, Try.ntmps8
  go_wp2_with (go_at_call 24; (with_reducible refine (h.out _ _).mono ?_); rintro e w2 ⟨rfl, hb2⟩)
  go_ret
  exact ⟨rfl, two_below hb2⟩
theorem same_yes {w : World} {A A2 : Option Addr} {c c2 : Nat} {l : List Chg} {x : Nat} (hl : l.length ≤ 100000) (ha : CRow w A l) (hb : CRow w A2 l) :
    Calls Try.prog 8 #[.agg #[.int .u64 x, .slice A l.length c], .agg #[.int .u64 x, .slice A2 l.length c2]] w (BoPost w true) :=
  same_of fun o1 o2 => equal_yes hl (crow_two ha o1 o2) (crow_two hb o1 o2)
theorem same_len {w : World} {A A2 : Option Addr} {c c2 : Nat} {n m : Nat} {x : Nat} (hn : n ≤ 9223372036854775807) (hm : m ≤ 9223372036854775807) (h : n ≠ m) :
    Calls Try.prog 8 #[.agg #[.int .u64 x, .slice A n c], .agg #[.int .u64 x, .slice A2 m c2]] w (BoPost w false) :=
  same_of fun _ _ => equal_len hn hm h
end Go.Proofs.Ytbolklpdbckefaa.Ba
