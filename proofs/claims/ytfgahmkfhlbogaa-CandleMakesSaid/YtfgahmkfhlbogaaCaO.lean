/-
  The law CandleMakes, walked. Conditions: as each theorem states.
-/
import Derived.Test.YtfgahmkfhlbogaaCaN
namespace Go.Proofs.Ytfgahmkfhlbogaa.Ca
open Go.RowKit Go.Shelf
open Go.Proofs.Ytfgahmkfhlbogaa Go.Proofs.Ytfgahmkfhlbogaa.Hx

theorem tk_ok {l : List Trd} (h : ∀ p ∈ l, p.ok) : ∀ x ∈ l.map tk, Am.rg x.p ∧ Am.rg x.s := fun x hx => by
  obtain ⟨t, ht, rfl⟩ := List.mem_map.1 hx
  exact h t ht
theorem tkd_ok {l : List Tk} (h : ∀ x ∈ l, Am.rg x.p ∧ Am.rg x.s) : ∀ x ∈ l, (tkd x).ok := fun x hx => one_ok (h x hx).1 (h x hx).2
theorem spR_len {α : Type} (cd : α → Cd) (l : List α) (m : Nat) (hm : 1 ≤ m) : (spR cd l m).1.length ≤ l.length := by
  have key : ∀ L : List (List Cd), (rows L).1.length ≤ L.length := by
    intro L
    induction L with
    | nil => simp [rows]
    | cons s r ih =>
      simp only [rows, List.length_cons]
      split
      · split
        · simp only [List.length_cons]; omega
        · simp
      · simp
  rw [spR_eq]
  have h := key ((parts m l.length l.length 0).map (gs cd l))
  have h2 := parts_len m l.length hm l.length 0
  simp only [List.length_map] at h
  omega
theorem ofM_len {α : Type} (cd : α → Cd) (l : List α) (m : Int) : (ofM cd l m).1.length ≤ l.length := by
  unfold ofM
  by_cases h : m < 1
  · rw [if_pos h]; simp
  · rw [if_neg h]; exact spR_len cd l m.toNat (by omega)
set_option maxHeartbeats 1000000 in
theorem makes_walk (A : Option Addr) (c : Nat) (l : List Trd) (m : Int) (hm1 : -9223372036854775808 ≤ m) (hm2 : m ≤ 9223372036854775807) (hl : l.length ≤ 100) (w : World) (RA : TRow w A l) (hok : ∀ p ∈ l, p.ok) :
    Calls Try.prog 3 #[.slice A l.length c, .int .i64 m] w fun e w' => e = .returned (.bool true) ∧ Below w.heap.size w w' := by
  have hlc : (l.length : Int) ≤ 100 := by omega
  have HRA := Lib.hid RA
  have hk := tk_ok hok
  have hkl : (l.map tk).length = l.length := by simp
  have hpl : (l.map tk).map (·.p) = l.map (·.price) := by rw [List.map_map]; rfl
  have hsl : (l.map tk).map (·.s) = l.map (·.size) := by rw [List.map_map]; rfl
  have cC := Lib.hid (fun W R => columns_any A c l (by omega) W R)
  have cT := Lib.hid (fun W R => trades_any A c l (by omega) W R)
  have cO := Lib.hid (fun A' W R => of_any A' l.length (l.map tk) (by rw [hkl]; omega) (by rw [hkl]; omega) (by omega) (tkd_ok hk) m hm2 W R)
  have cR := Lib.hid (fun Ap As cp cs h1 h2 W R1 R2 => rof_any Ap As cp cs (l.map tk) (by rw [hkl]; omega) h1 h2 hk m W R1 R2)
  rw [hkl] at cO cR
  rw [hpl, hsl] at cR
  have cS := Lib.hid (fun A' B' ca cb W R1 R2 => same_yes A' B' ca cb (ofM tkd (l.map tk) m).1 (by have := ofM_len tkd (l.map tk) m; rw [hkl] at this; omega) W R1 R2)
  replace cR : Hid (∀ (Ap As : Option Addr) (cp cs : Nat) (h1 : (l.map (·.price)).length ≤ cp) (h2 : (l.map (·.size)).length ≤ cs) (W : World) (R1 : NRow W Ap (l.map (·.price))) (R2 : NRow W As (l.map (·.size))), Calls Try.prog 9 #[.slice Ap (l.map (·.price)).length cp, .slice As (l.map (·.size)).length cs, .int .i64 m] W (SpQ (ofM tkd (l.map tk) m) W)) := Lib.hid (fun Ap As cp cs h1 h2 W R1 R2 => by
    have h := cR.out Ap As cp cs (by simpa using h1) (by simpa using h2) W R1 R2
    rw [List.length_map, List.length_map]
    exact h)
  clear RA hok hk hkl hpl hsl hm1 hm2
  generalize ofM tkd (l.map tk) m = r at *
  generalize l.map tk = lt at *
  generalize l.map (·.price) = lp at *
  generalize l.map (·.size) = ls at *
  obtain ⟨rl, rc⟩ := r
  simp only at cS
  go_enter Try.func3, Try.ntmps3
  go_wp2_with (first
    | (go_at_call 5; (with_reducible refine (awake35_any _).mono ?_); rintro e w1 ⟨rfl, hb1⟩; have W1 := Lib.hid hb1; clear hb1)
    | (go_at_call 6; (with_reducible refine (cC.out _ (HRA.out.below W1.out)).mono ?_); rintro e w2 ⟨vp, vs, rfl, hcs⟩
       obtain ⟨Ap, cp, rfl, np1, np2, np3, np4⟩ := nrow_at hcs.op
       obtain ⟨As, cs, rfl, ns1, ns2, ns3, ns4⟩ := nrow_at hcs.os
       have W2 := Lib.hid (below_on W1.out W1.out.size hcs.below)
       have NP := Lib.hid (And.intro np1 np3)
       have NS := Lib.hid (And.intro ns1 ns3)
       clear hcs np1 np2 np3 np4 ns1 ns2 ns3 ns4)
    | (go_at_call 8; (with_reducible refine (cT.out _ (HRA.out.below W2.out)).mono ?_); rintro e w3 ⟨g, rfl, hk3, hb3⟩
       have K3 := Lib.hid hk3
       have W3 := Lib.hid (below_on W2.out W2.out.size hb3)
       replace NP := Lib.hid (And.intro (NP.out.1.below hb3) NP.out.2)
       replace NS := Lib.hid (And.intro (NS.out.1.below hb3) NS.out.2)
       clear hk3 hb3)
    | (go_at_call 7; (with_reducible refine (cO.out _ _ K3.out).mono ?_); rintro e w4 ⟨AO, co, rfl, h1, h2, h3, h4⟩
       have O4 := Lib.hid h1
       have W4 := Lib.hid (below_on W3.out W3.out.size h4)
       replace NP := Lib.hid (And.intro (NP.out.1.below h4) NP.out.2)
       replace NS := Lib.hid (And.intro (NS.out.1.below h4) NS.out.2)
       clear h1 h2 h3 h4)
    | (go_at_call 9; (with_reducible refine (cR.out _ _ _ _ NP.out.2 NS.out.2 _ NP.out.1 NS.out.1).mono ?_); rintro e w5 ⟨BO, cb, rfl, h1, h2, h3, h4⟩
       have O5 := Lib.hid (And.intro (O4.out.on h4) h1)
       have W5 := Lib.hid (below_on W4.out W4.out.size h4)
       clear h1 h2 h3 h4)
    | (go_at_call 10; (with_reducible refine (cS.out _ _ _ _ _ O5.out.1 O5.out.2).mono ?_); rintro e w6 ⟨rfl, hb6⟩; have W6 := Lib.hid (below_on W5.out W5.out.size hb6); clear hb6))
  go_ret
  exact ⟨rfl, W6.out⟩
theorem makes_long (A : Option Addr) (c : Nat) (l : List Trd) (m : Int) (hl : ¬ l.length ≤ 100) (w : World) :
    Calls Try.prog 3 #[.slice A l.length c, .int .i64 m] w fun e w' => e = .returned (.bool true) ∧ Below w.heap.size w w' := by
  have hl' : (100 : Int) < (l.length : Int) := by omega
  go_enter Try.func3, Try.ntmps3
  go_wp2_with (go_at_call 5; (with_reducible refine (awake35_any _).mono ?_); rintro e w1 ⟨rfl, hb1⟩)
  go_ret
  exact ⟨rfl, hb1⟩
end Go.Proofs.Ytfgahmkfhlbogaa.Ca
