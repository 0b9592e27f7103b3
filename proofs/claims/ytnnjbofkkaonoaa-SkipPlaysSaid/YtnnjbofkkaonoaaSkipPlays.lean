/-
  The law SkipPlays returns true at every input. No condition.
-/
import Derived.Test.YtnnjbofkkaonoaaSkY
import Derived.Test.YtnnjbofkkaonoaaSkW2
namespace Go.Proofs.Ytnnjbofkkaonoaa.skipPlays
open Go.ChangeShapes Go.WideShapes Go.ChangeAt Go.RowKit
open Go.ChangeMaps (open_string)
open Go.Proofs.Ytnnjbofkkaonoaa
open Go.Proofs.Ytnnjbofkkaonoaa.Sk

theorem walk (A : Option Addr) (c : Nat) (l : List Ac) (key : ByteArray) (mt : Nat) (w : World) (hl : l.length ≤ 9223372036854775807) (hsz : ∀ p ∈ l, p.key.size ≤ 9223372036854775807 ∧ p.value.size ≤ 9223372036854775807) (hk : key.size ≤ 9223372036854775807) (hmt : mt ≤ 255) (RA : ARow w A l) :
    Calls Try.prog 3 #[.slice A l.length c, .string key, .int .u8 mt] w fun e w' => e = .returned (.bool true) ∧ Below w.heap.size w w' := by
  by_cases hok : ∀ x ∈ l, okA l.length 80 x
  · by_cases h2 : key.size ≤ 300
    · have hl80 : l.length ≤ 80 := by
        match l, hok with
        | [], _ => simp
        | x :: l, hok => exact (hok x (by simp)).1
      exact plays_main key mt RA hl80 h2 hmt hok
    · exact plays_out key mt RA hl hk hsz (.inr ⟨hok, by omega⟩)
  · exact plays_out key mt RA hl hk hsz (.inl hok)

set_option maxRecDepth 100000 in
theorem lifted (os : Os) (started : os.Started) (H : Type) (enc : TypeId × Value → H) :
    ReturnsInHanded {} Try.checked os 3 .any (Rows.skipPlaysSpec.pre6 enc Try.prog Try.f3 Rows.skipPlaysRow.domain false) (Rows.skipPlaysSpec.post enc Try.prog Try.f3 false true false false) := by
  refine returnsInHanded_of_change (C := Try.checked) own started (by kernel_rfl) Try.func3
    (ChangeSpec.witness6 (enc := enc) (C := Try.checked) false ⟨#[], #[.slice none 0 0, .string ⟨#[]⟩, .int .u8 0], []⟩ 8 (by kernel_rfl) (by kernel_rfl) (by kernel_rfl) (by kernel_rfl)) ?_
  intro W base args ds gs before hval0 hW hcnd _
  have hval : ∀ (j : Nat) t v, Try.f3.params[j]? = some t → args[j]? = some v → Value.okWide Try.prog W .any base t v := hval0
  have hW' := hW
  obtain ⟨p, q, hA0, hV, rfl, hfz, hnd⟩ := hW
  have hA : DataW.TrodAll enc Try.prog W 0 (fun _ => true) true Try.f3.params.toList args.toList ds p := hA0
  rw [Try.params3] at hA hval
  obtain ⟨v0, vs0, d0, ds0, p0, q0, hargs, rfl, rfl, h0, r0⟩ := trodAll_cons hA
  obtain ⟨v1, vs1, d1, ds1, p1, q1, rfl, rfl, rfl, h1, r1⟩ := trodAll_cons r0
  obtain ⟨v2, vs2, d2, ds2, p2, q2, rfl, rfl, rfl, h2, r2⟩ := trodAll_cons r1
  obtain ⟨rfl, rfl, rfl⟩ := trodAll_nil r2
  obtain rfl : args = #[v0, v1, v2] := by cases args; simp_all
  obtain ⟨ao, len, cap, rfl⟩ := okWide_slice Try.underlying22 (hval 0 22 v0 rfl rfl)
  obtain ⟨key, rfl, rfl, rfl, m2⟩ := open_string Try.underlying9 (hval 1 9 v1 rfl rfl) h1
  obtain ⟨mi, rfl, rfl, rfl, wm⟩ := open_int Try.underlying5 (hval 2 5 v2 rfl rfl) h2
  obtain ⟨mt, rfl, hmt⟩ : ∃ n : Nat, mi = n ∧ n ≤ 255 := by
    have hx : 0 ≤ mi ∧ mi ≤ 255 := by simpa [Lit.wf, IntKind.min, IntKind.max, IntKind.signed, IntKind.bits] using wm
    exact ⟨mi.toNat, by omega, by omega⟩
  have main : Calls Try.prog 3 #[.slice ao len cap, .string key, .int .u8 mt] W fun e w' => e = .returned (.bool true) ∧ Below W.heap.size W w' := by
    obtain ⟨fuel, hf⟩ := h0
    obtain ⟨l, rfl, RA, hl, hs⟩ := open_acts (by exact hf)
    exact walk ao cap l key mt W hl hs (by unfold maxLen at m2; omega) hmt RA
  refine (main).mono fun e W' ⟨he, hb⟩ => ?_
  exact ⟨_, he, post_law hW' rfl rfl rfl (by rw [Try.params3]; decide +kernel) hb⟩

theorem proved : Rows.SkipPlaysSaid :=
  OpenClaim.holds_of_wide 3 Try.f3 rfl rfl rfl rfl rfl rfl rfl ⟨rfl, rfl, rfl, rfl, rfl⟩ rfl rfl rfl rfl rfl (by kernel_rfl) Try.func3 (by kernel_rfl)
    (of_decide_eq_true (by kernel_rfl)) (by unfold Func.isWrapper; first | (rw [if_pos (by decide +kernel)]; kernel_rfl) | (rw [if_neg (by decide +kernel)]; exact ⟨rfl, rfl⟩))
    (fun os started H enc _ => lifted os started H enc)
#print axioms proved
end Go.Proofs.Ytnnjbofkkaonoaa.skipPlays
