/-
  The law SkipTowers returns true at every input. No condition.
-/
import Derived.Test.YtfbfclejegajpaaSkQ
namespace Go.Proofs.Ytfbfclejegajpaa.skipTowers
open Go.ChangeShapes Go.WideShapes Go.ChangeAt Go.RowKit
open Go.ChangeMaps (open_string)
open Go.Proofs.Ytfbfclejegajpaa
open Go.Proofs.Ytfbfclejegajpaa.Sk

theorem walk (A : Option Addr) (c : Nat) (l : List Ac) (B : Option Addr) (d : Nat) (hs : List Int) (key : ByteArray) (w : World) (hl : l.length ≤ 9223372036854775807) (hsz : ∀ p ∈ l, p.key.size ≤ 9223372036854775807 ∧ p.value.size ≤ 9223372036854775807) (hhs : hs.length ≤ 9223372036854775807) (hk : key.size ≤ 9223372036854775807) (RA : ARow w A l) (RB : NRow w B hs) :
    Calls Try.prog 4 #[.slice A l.length c, .slice B hs.length d, .string key] w fun e w' => e = .returned (.bool true) ∧ Below w.heap.size w w' := by
  by_cases hok : ∀ x ∈ l, okA l.length 80 x
  · by_cases h1 : hs.length ≤ 100
    · by_cases h2 : key.size ≤ 300
      · have hl80 : l.length ≤ 80 := by
          match l, hok with
          | [], _ => simp
          | x :: l, hok => exact (hok x (by simp)).1
        exact towers_main key RA RB hl80 h1 h2 hok
      · exact towers_out key RA hl hhs hk hsz (.inr (.inr ⟨hok, h1, by omega⟩))
    · exact towers_out key RA hl hhs hk hsz (.inr (.inl ⟨hok, by omega⟩))
  · exact towers_out key RA hl hhs hk hsz (.inl hok)

set_option maxRecDepth 100000 in
theorem lifted (os : Os) (started : os.Started) (H : Type) (enc : TypeId × Value → H) :
    ReturnsInHanded {} Try.checked os 4 .any (Rows.skipTowersSpec.pre6 enc Try.prog Try.f4 Rows.skipTowersRow.domain false) (Rows.skipTowersSpec.post enc Try.prog Try.f4 false true false false) := by
  refine returnsInHanded_of_change (C := Try.checked) own started (by kernel_rfl) Try.func4
    (ChangeSpec.witness6 (enc := enc) (C := Try.checked) false ⟨#[], #[.slice none 0 0, .slice none 0 0, .string ⟨#[]⟩], []⟩ 8 (by kernel_rfl) (by kernel_rfl) (by kernel_rfl) (by kernel_rfl)) ?_
  intro W base args ds gs before hval0 hW hcnd _
  have hval : ∀ (j : Nat) t v, Try.f4.params[j]? = some t → args[j]? = some v → Value.okWide Try.prog W .any base t v := hval0
  have hW' := hW
  obtain ⟨p, q, hA0, hV, rfl, hfz, hnd⟩ := hW
  have hA : DataW.TrodAll enc Try.prog W 0 (fun _ => true) true Try.f4.params.toList args.toList ds p := hA0
  rw [Try.params4] at hA hval
  obtain ⟨v0, vs0, d0, ds0, p0, q0, hargs, rfl, rfl, h0, r0⟩ := trodAll_cons hA
  obtain ⟨v1, vs1, d1, ds1, p1, q1, rfl, rfl, rfl, h1, r1⟩ := trodAll_cons r0
  obtain ⟨v2, vs2, d2, ds2, p2, q2, rfl, rfl, rfl, h2, r2⟩ := trodAll_cons r1
  obtain ⟨rfl, rfl, rfl⟩ := trodAll_nil r2
  obtain rfl : args = #[v0, v1, v2] := by cases args; simp_all
  obtain ⟨ao, len, cap, rfl⟩ := okWide_slice Try.underlying22 (hval 0 22 v0 rfl rfl)
  obtain ⟨bo, blen, bcap, rfl⟩ := okWide_slice Try.underlying50 (hval 1 50 v1 rfl rfl)
  obtain ⟨key, rfl, rfl, rfl, m2⟩ := open_string Try.underlying9 (hval 2 9 v2 rfl rfl) h2
  have main : Calls Try.prog 4 #[.slice ao len cap, .slice bo blen bcap, .string key] W fun e w' => e = .returned (.bool true) ∧ Below W.heap.size W w' := by
    obtain ⟨fuel, hf⟩ := h0
    obtain ⟨l, rfl, RA, hl, hs⟩ := open_acts (by exact hf)
    obtain ⟨fuel1, hf1⟩ := h1
    obtain ⟨l1, rfl, RB, hl1⟩ := open_nums (by exact hf1)
    exact walk ao cap l bo bcap l1 key W hl hs hl1 (by unfold maxLen at m2; omega) RA RB
  refine (main).mono fun e W' ⟨he, hb⟩ => ?_
  exact ⟨_, he, post_law hW' rfl rfl rfl (by rw [Try.params4]; decide +kernel) hb⟩

theorem proved : Rows.SkipTowersSaid :=
  OpenClaim.holds_of_wide 4 Try.f4 rfl rfl rfl rfl rfl rfl rfl ⟨rfl, rfl, rfl, rfl, rfl⟩ rfl rfl rfl rfl rfl (by kernel_rfl) Try.func4 (by kernel_rfl)
    (of_decide_eq_true (by kernel_rfl)) (by unfold Func.isWrapper; first | (rw [if_pos (by decide +kernel)]; kernel_rfl) | (rw [if_neg (by decide +kernel)]; exact ⟨rfl, rfl⟩))
    (fun os started H enc _ => lifted os started H enc)
#print axioms proved
end Go.Proofs.Ytfbfclejegajpaa.skipTowers
