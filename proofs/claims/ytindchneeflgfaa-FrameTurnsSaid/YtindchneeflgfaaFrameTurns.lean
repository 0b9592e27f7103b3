/-
  The law FrameTurns returns true at every input. No condition.
-/
import Derived.Test.YtindchneeflgfaaFrSo
import Derived.Test.YtindchneeflgfaaFrN
namespace Go.Proofs.Ytindchneeflgfaa.frameTurns
open Go.ChangeShapes Go.WideShapes Go.ChangeAt Go.RowKit Go.Shelf
open Go.Proofs.Ytindchneeflgfaa
open Vi

theorem walk (A : Option Addr) (c : Nat) (l : List (List UInt8)) (at_ : Int) (tv : Nat) (htv : tv < 256) (w : World) (hl : l.length ≤ 9223372036854775807) (hs : ∀ s ∈ l, s.length ≤ 9223372036854775807) (RA : SRow w A l) :
    Calls Try.prog 5 #[.slice A l.length c, .int .i64 at_, .int .u8 tv] w fun e w' => e = .returned (.bool true) ∧ Below w.heap.size w w' := by
  by_cases h : l.length < 1 ∨ (1 ≤ l.length ∧ 10 < l.length) ∨ (1 ≤ l.length ∧ l.length ≤ 10 ∧ tv = 0)
  · exact callsIn_wide.1 (odd_in 4 (by omega) A c l hl at_ tv htv h w)
  · have h1 : 1 ≤ l.length := by omega
    have h10 : l.length ≤ 10 := by omega
    have ht0 : 0 < tv := by omega
    by_cases hall : ∀ s ∈ l, s.length ≤ 400
    · obtain ⟨l0, s, G, a, N, hL⟩ := laid_of h1 h10 hall
      by_cases h2 : 2 ≤ l.length
      · exact callsIn_wide.1 (two_in 4 (by omega) A c l l0 s G a N hL h2 h10 RA hall at_ tv htv ht0)
      · have ha : a = 0 := by
          have hl0 : l0.length + 1 = l.length := by rw [hL.le]; simp
          have e0 : l0 = [] := List.eq_nil_of_length_eq_zero (by omega)
          have := hL.at_
          rw [e0] at this
          exact this.symm
        subst ha
        exact callsIn_wide.1 (one_in 4 (by omega) A c l l0 s G N hL (by omega) h1 h10 RA hall at_ tv htv ht0)
    · obtain ⟨k, hk, h3, h4⟩ := long_at hall
      exact callsIn_wide.1 (long_in 4 (by omega) A c l h1 h10 RA k hk h3 (hs _ (List.getElem_mem hk)) h4 at_ tv htv ht0)

set_option maxRecDepth 100000 in
theorem lifted (os : Os) (started : os.Started) (H : Type) (enc : TypeId × Value → H) :
    ReturnsInHanded {} Try.checked os 5 .any (Rows.frameTurnsSpec.pre6 enc Try.prog Try.f5 Rows.frameTurnsRow.domain false) (Rows.frameTurnsSpec.post enc Try.prog Try.f5 false true false false) := by
  refine returnsInHanded_of_change (C := Try.checked) own started (by kernel_rfl) Try.func5
    (ChangeSpec.witness6 (enc := enc) (C := Try.checked) false ⟨#[], #[.slice none 0 0, .int .i64 0, .int .u8 0], []⟩ 8 (by kernel_rfl) (by kernel_rfl) (by kernel_rfl) (by kernel_rfl)) ?_
  intro W base args ds gs before hval0 hW hcnd _
  have hval : ∀ (j : Nat) t v, Try.f5.params[j]? = some t → args[j]? = some v → Value.okWide Try.prog W .any base t v := hval0
  have hW' := hW
  obtain ⟨p, q, hA0, hV, rfl, hfz, hnd⟩ := hW
  have hA : DataW.TrodAll enc Try.prog W 0 (fun _ => true) true Try.f5.params.toList args.toList ds p := hA0
  rw [Try.params5] at hA hval
  obtain ⟨v0, vs0, d0, ds0, p0, q0, hargs, rfl, rfl, h0, r0⟩ := trodAll_cons hA
  obtain ⟨v1, vs1, d1, ds1, p1, q1, rfl, rfl, rfl, h1, r1⟩ := trodAll_cons r0
  obtain ⟨v2, vs2, d2, ds2, p2, q2, rfl, rfl, rfl, h2, r2⟩ := trodAll_cons r1
  obtain ⟨rfl, rfl, rfl⟩ := trodAll_nil r2
  obtain rfl : args = #[v0, v1, v2] := by cases args; simp_all
  obtain ⟨ao, len, cap, rfl⟩ := okWide_slice Try.underlying35 (hval 0 35 v0 rfl rfl)
  obtain ⟨at_, rfl, rfl, rfl, w1⟩ := open_int Try.underlying3 (hval 1 3 v1 rfl rfl) h1
  obtain ⟨tw, rfl, rfl, rfl, w2⟩ := open_int Try.underlying5 (hval 2 5 v2 rfl rfl) h2
  obtain ⟨tv, rfl, htv⟩ : ∃ n : Nat, tw = n ∧ n < 256 := by
    have hx : 0 ≤ tw ∧ tw ≤ 255 := by simpa [Lit.wf, IntKind.min, IntKind.max, IntKind.signed, IntKind.bits] using w2
    exact ⟨tw.toNat, by omega, by omega⟩
  have main : Calls Try.prog 5 #[.slice ao len cap, .int .i64 at_, .int .u8 tv] W fun e w' => e = .returned (.bool true) ∧ Below W.heap.size W w' := by
    obtain ⟨fuel, hf⟩ := h0
    obtain ⟨l, rfl, RA, hl, hs⟩ := open_strings (by exact hf)
    exact walk ao cap l at_ tv htv W hl hs RA
  refine (main).mono fun e W' ⟨he, hb⟩ => ?_
  exact ⟨_, he, post_law hW' rfl rfl rfl (by rw [Try.params5]; decide +kernel) hb⟩

theorem proved : Rows.FrameTurnsSaid :=
  OpenClaim.holds_of_wide 5 Try.f5 rfl rfl rfl rfl rfl rfl rfl ⟨rfl, rfl, rfl, rfl, rfl⟩ rfl rfl rfl rfl rfl (by kernel_rfl) Try.func5 (by kernel_rfl)
    (of_decide_eq_true (by kernel_rfl)) (by unfold Func.isWrapper; first | (rw [if_pos (by decide +kernel)]; kernel_rfl) | (rw [if_neg (by decide +kernel)]; exact ⟨rfl, rfl⟩))
    (fun os started H enc _ => lifted os started H enc)
#print axioms proved
end Go.Proofs.Ytindchneeflgfaa.frameTurns
