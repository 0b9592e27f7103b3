/-
  Candles of so many things each (candle.Of, candle.Fold), walked. Conditions: the numbers are of 64 bits.
-/
import Derived.Test.YtfgahmkfhlbogaaCaH
namespace Go.Proofs.Ytfgahmkfhlbogaa.Ca
open Go.RowKit Go.Shelf
open Go.Proofs.Ytfgahmkfhlbogaa Go.Proofs.Ytfgahmkfhlbogaa.Hx Go.Proofs.Ytfgahmkfhlbogaa.Rf

/-- what Of comes to -/
def ofM {α : Type} (cd : α → Cd) (l : List α) (every : Int) : List Cd × Int := if every < 1 then ([], 2) else spR cd l every.toNat
theorem spansT_any (A : Option Addr) (c : Nat) (l : List Tk) (hl : l.length ≤ 1000) (hc : l.length ≤ c) (hcm : c ≤ 9223372036854775807) (hok : ∀ x ∈ l, (tkd x).ok) (m : Int) (hm2 : m ≤ 9223372036854775807) (w : World) (R : KRow w A l) :
    Calls Try.prog 14 #[.slice A l.length c, .int .i64 m, .func (.func 15) #[] #[]] w (SpQ (ofM tkd l m) w) := by
  unfold ofM
  by_cases h : m < 1
  · rw [if_pos h]; exact spansT_none _ m h w
  · rw [if_neg h]
    have h2 := callsIn_wide.1 (spansT_in 4 (by omega) A c l hl hc hcm hok m.toNat (by omega) (by omega) w R)
    rwa [show ((m.toNat : Nat) : Int) = m by omega] at h2
theorem spansC_any (A : Option Addr) (c : Nat) (l : List Cd) (hl : l.length ≤ 1000) (hc : l.length ≤ c) (hcm : c ≤ 9223372036854775807) (hok : ∀ x ∈ l, (cdd x).ok) (m : Int) (hm2 : m ≤ 9223372036854775807) (w : World) (R : CRow w A l) :
    Calls Try.prog 19 #[.slice A l.length c, .int .i64 m, .func (.func 20) #[] #[]] w (SpQ (ofM cdd l m) w) := by
  unfold ofM
  by_cases h : m < 1
  · rw [if_pos h]; exact spansC_none _ m h w
  · rw [if_neg h]
    have h2 := callsIn_wide.1 (spansC_in 4 (by omega) A c l hl hc hcm hok m.toNat (by omega) (by omega) w R)
    rwa [show ((m.toNat : Nat) : Int) = m by omega] at h2
theorem of_any (A : Option Addr) (c : Nat) (l : List Tk) (hl : l.length ≤ 1000) (hc : l.length ≤ c) (hcm : c ≤ 9223372036854775807) (hok : ∀ x ∈ l, (tkd x).ok) (m : Int) (hm2 : m ≤ 9223372036854775807) (w : World) (R : KRow w A l) :
    Calls Try.prog 7 #[.slice A l.length c, .int .i64 m] w (SpQ (ofM tkd l m) w) := by
  have cs := Lib.hid (fun W R => spansT_any A c l hl hc hcm hok m hm2 W R)
  have HR := Lib.hid R
  clear R hok hcm hm2
  generalize ofM tkd l m = r at *
  go_enter Try.func7, Try.ntmps7
  go_wp2_with (go_at_call 14; (with_reducible refine (cs.out _ HR.out).mono ?_); rintro e w2 ⟨AO, co, rfl, h1, h2, h3, h4⟩; have H := Lib.hid (And.intro h1 (And.intro h2 (And.intro h3 h4))); clear h1 h2 h3 h4)
  go_ret2
  exact ⟨AO, co, rfl, H.out.1, H.out.2.1, H.out.2.2.1, H.out.2.2.2⟩
theorem fold_any (A : Option Addr) (c : Nat) (l : List Cd) (hl : l.length ≤ 1000) (hc : l.length ≤ c) (hcm : c ≤ 9223372036854775807) (hok : ∀ x ∈ l, (cdd x).ok) (m : Int) (hm2 : m ≤ 9223372036854775807) (w : World) (R : CRow w A l) :
    Calls Try.prog 11 #[.slice A l.length c, .int .i64 m] w (SpQ (ofM cdd l m) w) := by
  have cs := Lib.hid (fun W R => spansC_any A c l hl hc hcm hok m hm2 W R)
  have HR := Lib.hid R
  clear R hok hcm hm2
  generalize ofM cdd l m = r at *
  go_enter Try.func11, Try.ntmps11
  go_wp2_with (go_at_call 19; (with_reducible refine (cs.out _ HR.out).mono ?_); rintro e w2 ⟨AO, co, rfl, h1, h2, h3, h4⟩; have H := Lib.hid (And.intro h1 (And.intro h2 (And.intro h3 h4))); clear h1 h2 h3 h4)
  go_ret2
  exact ⟨AO, co, rfl, H.out.1, H.out.2.1, H.out.2.2.1, H.out.2.2.2⟩
end Go.Proofs.Ytfgahmkfhlbogaa.Ca
