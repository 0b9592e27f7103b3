/-
  The law BatchBack walked. Conditions: as each theorem states.
-/
import Derived.Test.YtbolklpdbckefaaBaG
namespace Go.Proofs.Ytbolklpdbckefaa.Ba
open Go.RowKit
open Go.Proofs.Ytbolklpdbckefaa
open Vi

def PrPost (w : World) (l : List Chg) (seq : Nat) (err : Int) (e : Ending) (w' : World) : Prop :=
  ∃ A c, e = .returned (.tuple #[.agg #[.int .u64 seq, .slice A l.length c], .int .i64 err]) ∧ CRow w' A l ∧ Below w.heap.size w w'
theorem parse_at (s : ByteArray) (hs : s.size ≤ 1000000) {l : List Chg} {seq : Nat} {err : Int} (h : parse s.data.toList = (l, seq, err)) (w : World) :
    Calls Try.prog 7 #[.string s] w (PrPost w l seq err) := by
  refine (parse_any s hs w).mono ?_
  rintro e w' ⟨v, h1, h2, h3⟩
  rw [h] at h1 h2
  obtain ⟨A, c, rfl, hr⟩ := crow_of_owns h2
  exact ⟨A, c, h1, hr, h3⟩
theorem small_of_ok {l : List Chg} (h : ∀ c ∈ l, chk1 c = 0) : ∀ p ∈ l, p.small := fun p hp => by
  obtain ⟨_, _, h1, h2, _⟩ := chk1_ok.1 (h p hp)
  exact ⟨by omega, by omega⟩
/-- what Parse says of any bytes, and what is written of that -/
theorem tail_ways (X : List UInt8) : ∃ (l : List Chg) (seq : Nat) (err : Int), parse X = (l, seq, err) ∧ chkB seq l = 0 ∧ ((err = 0 ∧ bb seq l = X) ∨ ((err == 0) = false ∧ l = [] ∧ seq = 0)) := by
  obtain ⟨⟨l, seq, err⟩, hp⟩ : ∃ r, parse X = r := ⟨_, rfl⟩
  by_cases he : err = 0
  · subst he
    obtain ⟨h1, h2⟩ := bb_parse hp
    exact ⟨l, seq, 0, hp, h2, .inl ⟨rfl, h1⟩⟩
  · obtain ⟨h1, h2⟩ := parse_bad (L := X) (by rw [hp]; exact he)
    rw [hp] at h1 h2
    simp only at h1 h2
    subst h1 h2
    exact ⟨[], 0, err, hp, by decide, .inr ⟨by simpa using he, rfl, rfl⟩⟩
theorem crow_alloc {w : World} {A : Option Addr} {l : List Chg} (h : CRow w A l) (o : Obj) : CRow (w.alloc o) A l := h.on ((Below.refl _ _).alloc (Nat.le_refl _) _)
theorem alloc_on {w w2 : World} {o : Obj} {x y : Value} {t : TypeId} (ho : o = .cells #[x, y] t (0, 0)) (h : Below (w.alloc o).heap.size (w.alloc o) w2) : w2.cell? ⟨w.heap.size, 0, none⟩ = some x ∧ w2.cell? ⟨w.heap.size, 1, none⟩ = some y := by
  subst ho
  exact box2 (h.mono (by simp))
theorem below_alloc_on {B : Nat} {w w1 w2 : World} {o : Obj} (h : Below B w w1) (hB : B ≤ w1.heap.size) (h2 : Below (w1.alloc o).heap.size (w1.alloc o) w2) : Below B w w2 :=
  (h.alloc hB _).trans (h2.mono (by simp; omega))
section
variable {w : World} {seq : Nat} {A : Option Addr} {c : Nat} {l : List Chg} {s : ByteArray}
set_option maxHeartbeats 1000000 in
set_option maxRecDepth 100000 in
theorem back_heavy (RA : CRow w A l) (hl : l.length ≤ 9223372036854775807) (hsm : ∀ p ∈ l, p.small) (hs : s.size ≤ 9223372036854775807) (h : ¬ ((∀ a ∈ l, okC l.length a) ∧ s.size ≤ 5000)) :
    Calls Try.prog 3 #[.int .u64 seq, .slice A l.length c, .string s] w (BoPost w true) := by
  by_cases hok : ∀ a ∈ l, okC l.length a
  · have hs5 : 5000 < s.size := by
      refine Classical.byContradiction fun hn => h ⟨hok, by omega⟩
    have LA := Lib.hid fun (W : World) (R : CRow W A l) => light_all (c := c) R hl hok
    replace RA := Lib.hid RA
    clear h hok hsm
    go_enter Try.func3, Try.ntmps3
    go_wp2_with (first
      | (go_at_call 4; (with_reducible refine (awake_any _).mono ?_); rintro e w1 ⟨rfl, b1⟩; have R1 := Lib.hid (RA.out.on b1))
      | (go_at_call 5; (with_reducible refine (LA.out _ R1.out).mono ?_); rintro e w2 ⟨rfl, b2⟩))
    go_ret
    exact ⟨rfl, b1.trans (b2.mono b1.size)⟩
  · have LA := Lib.hid fun (W : World) (R : CRow W A l) => light_bad (c := c) R hl hsm hok
    replace RA := Lib.hid RA
    clear h hok hsm
    go_enter Try.func3, Try.ntmps3
    go_wp2_with (first
      | (go_at_call 4; (with_reducible refine (awake_any _).mono ?_); rintro e w1 ⟨rfl, b1⟩; have R1 := Lib.hid (RA.out.on b1))
      | (go_at_call 5; (with_reducible refine (LA.out _ R1.out).mono ?_); rintro e w2 ⟨rfl, b2⟩))
    go_ret
    exact ⟨rfl, b1.trans (b2.mono b1.size)⟩
set_option maxHeartbeats 1000000 in
set_option maxRecDepth 100000 in
theorem back_bad (hq : seq < 18446744073709551616) (RA : CRow w A l) (hl : l.length ≤ 9223372036854775807) (hok : ∀ a ∈ l, okC l.length a) (hs : s.size ≤ 5000) (hc : ¬ chkB seq l = 0) :
    Calls Try.prog 3 #[.int .u64 seq, .slice A l.length c, .string s] w (BoPost w true) := by
  obtain ⟨l2, seq2, err, hp, hc2, hway⟩ := tail_ways s.data.toList
  have hsm : ∀ p ∈ l, p.small := fun p hp => ⟨by have := (hok p hp).2.1; omega, by have := (hok p hp).2.2; omega⟩
  have LA := Lib.hid fun (W : World) (R : CRow W A l) => light_all (c := c) R hl hok
  have BY := Lib.hid fun (W : World) (R : CRow W A l) => bytes_bad seq hq (c := c) R hl hsm hc
  have hz1 : (chkB seq l == 0) = false := by simpa using hc
  have PA := Lib.hid (parse_at s (by omega) hp)
  have B2 := Lib.hid fun (W : World) (A : Option Addr) (c : Nat) (R : CRow W A l2) => bytes_ok seq2 (c := c) R (small_of_ok (chkB_ok.1 hc2).2.1) hc2
  replace RA := Lib.hid RA
  clear hok hsm hc hc2 hp
  generalize chkB seq l = z at *
  rcases hway with ⟨rfl, hX⟩ | ⟨he, rfl, rfl⟩
  · replace B2 : Hid (∀ (W : World) (A : Option Addr) (c : Nat), CRow W A l2 → Calls Try.prog 6 #[.agg #[.int .u64 seq2, .slice A l2.length c]] W fun e w' => e = .returned (.tuple #[.string s, .int .i64 0]) ∧ Below W.heap.size W w') := fun W A c R => by
      have := B2.out W A c R
      rw [hX] at this
      exact this.mono fun e w' ⟨h1, h2⟩ => ⟨by rw [h1, bs_of], h2⟩
    clear hX
    go_enter Try.func3, Try.ntmps3
    go_wp2_with (first
      | (go_at_call 4; (with_reducible refine (awake_any _).mono ?_); rintro e w1 ⟨rfl, b1⟩; have R1 := Lib.hid (RA.out.on b1))
      | (go_at_call 5; (with_reducible refine (LA.out _ R1.out).mono ?_); rintro e w2 ⟨rfl, b2⟩; have R2 := Lib.hid (crow_alloc (R1.out.on b2) (.cells #[.int .u64 seq, .slice A l.length c] 27 (0, 0))))
      | (go_at_call 6; (with_reducible refine (BY.out _ R2.out).mono ?_); rintro e w3 ⟨rfl, b3⟩)
      | (go_at_call 7; (with_reducible refine (PA.out _).mono ?_); rintro e w5 ⟨A5, c5, rfl, r5, b5⟩; have Q5 := Lib.hid (And.intro (crow_alloc r5 (.cells #[.int .u64 seq2, .slice A5 l2.length c5] 27 (0, 0))) b5); clear r5 b5)
      | (go_at_call 6; (with_reducible refine (B2.out _ _ _ Q5.out.1).mono ?_); rintro e w6 ⟨rfl, b6⟩; obtain ⟨x0, x1⟩ := alloc_on rfl b6; have Q6 := Lib.hid b6; clear b6))
    go_ret
    exact ⟨rfl, below_alloc_on (((b1.trans (b2.mono b1.size)).alloc (Nat.le_trans b1.size b2.size) _).trans ((b3.mono (by have := b1.size; have := b2.size; simp; omega)).trans (Q5.out.2.mono (by have := b1.size; have := b2.size; have := b3.size; simp at this; omega)))) (by have := b1.size; have := b2.size; have := b3.size; have := Q5.out.2.size; simp at *; omega) Q6.out⟩
  · have PA2 : Hid (∀ W : World, Calls Try.prog 7 #[.string s] W fun e w' => ∃ A c, e = .returned (.tuple #[.agg #[.int .u64 0, .slice A 0 c], .int .i64 err]) ∧ Below W.heap.size W w') := fun W => (PA.out W).mono fun e w' ⟨A, c, h1, _, h2⟩ => ⟨A, c, h1, h2⟩
    have B3 : Hid (∀ (W : World) (A : Option Addr) (c : Nat), Calls Try.prog 6 #[.agg #[.int .u64 0, .slice A 0 c]] W (ByPost W (bb 0 []) 0)) := fun W A c => B2.out W A c (crow_nil W A)
    have SM : Hid (∀ (W : World) (A : Option Addr) (c : Nat), Calls Try.prog 8 #[.agg #[.int .u64 0, .slice A 0 c], .agg #[.int .u64 0, .slice none 0 0]] W (BoPost W true)) := fun W A c => same_yes (x := 0) (c2 := 0) (l := []) (by simp) (crow_nil W A) (crow_nil W none)
    have he2 : (err != 0) = true := by simp [bne, he]
    clear PA B2
    go_enter Try.func3, Try.ntmps3
    go_wp2_with (first
      | (go_at_call 4; (with_reducible refine (awake_any _).mono ?_); rintro e w1 ⟨rfl, b1⟩; have R1 := Lib.hid (RA.out.on b1))
      | (go_at_call 5; (with_reducible refine (LA.out _ R1.out).mono ?_); rintro e w2 ⟨rfl, b2⟩; have R2 := Lib.hid (crow_alloc (R1.out.on b2) (.cells #[.int .u64 seq, .slice A l.length c] 27 (0, 0))))
      | (go_at_call 6; (with_reducible refine (BY.out _ R2.out).mono ?_); rintro e w3 ⟨rfl, b3⟩)
      | (go_at_call 7; (with_reducible refine (PA2.out _).mono ?_); rintro e w5 ⟨A5, c5, rfl, b5⟩; have Q5 := Lib.hid b5; clear b5)
      | (go_at_call 6; (with_reducible refine (B3.out _ _ _).mono ?_); rintro e w6 ⟨rfl, b6⟩; obtain ⟨x0, x1⟩ := alloc_on rfl b6; have Q6 := Lib.hid b6; clear b6)
      | (go_at_call 8; (with_reducible refine (SM.out _ _ _).mono ?_); rintro e w7 ⟨rfl, b7⟩; have Q7 := Lib.hid b7; clear b7))
    go_ret
    have B6 : Below w.heap.size w w6 := below_alloc_on (((b1.trans (b2.mono b1.size)).alloc (Nat.le_trans b1.size b2.size) _).trans ((b3.mono (by have := b1.size; have := b2.size; simp; omega)).trans (Q5.out.mono (by have := b1.size; have := b2.size; have := b3.size; simp at this; omega)))) (by have := b1.size; have := b2.size; have := b3.size; have := Q5.out.size; simp at *; omega) Q6.out
    exact ⟨rfl, B6.trans (Q7.out.mono B6.size)⟩
end
end Go.Proofs.Ytbolklpdbckefaa.Ba
