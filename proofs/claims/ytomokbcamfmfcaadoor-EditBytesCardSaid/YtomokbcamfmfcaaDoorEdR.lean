/-
  The document's own reading of an edit stops at the first error: it comes to the same. Conditions: as each theorem states.
-/
import Derived.Test.YtomokbcamfmfcaaDoorEdBack
namespace Go.Proofs.YtomokbcamfmfcaaDoor.Ed
open Go.Proofs.YtomokbcamfmfcaaDoor
open Vi Ba

def raAs (L : List UInt8) : Nat → Pt → List Fil → List Fil × Pt
  | 0, p, acc => (acc, p)
  | n + 1, p, acc => if p.2 = 0 then raAs L n (rdA L p).2 (acc ++ [(rdA L p).1]) else (acc, p)
def raGs (L : List UInt8) : Nat → Pt → List Gon → List Gon × Pt
  | 0, p, acc => (acc, p)
  | n + 1, p, acc => if p.2 = 0 then raGs L n (rdG L p).2 (acc ++ [(rdG L p).1]) else (acc, p)
theorem raAs_bad {L : List UInt8} {n : Nat} {p : Pt} {acc : List Fil} (h : ¬ p.2 = 0) : raAs L n p acc = (acc, p) := by
  cases n with
  | zero => rfl
  | succ n => rw [raAs, if_neg h]
theorem raGs_bad {L : List UInt8} {n : Nat} {p : Pt} {acc : List Gon} (h : ¬ p.2 = 0) : raGs L n p acc = (acc, p) := by
  cases n with
  | zero => rfl
  | succ n => rw [raGs, if_neg h]
theorem raAs_on {L : List UInt8} {n : Nat} {p : Pt} {acc : List Fil} (h : p.2 = 0) : raAs L (n + 1) p acc = raAs L n (rdA L p).2 (acc ++ [(rdA L p).1]) := by rw [raAs, if_pos h]
theorem raGs_on {L : List UInt8} {n : Nat} {p : Pt} {acc : List Gon} (h : p.2 = 0) : raGs L (n + 1) p acc = raGs L n (rdG L p).2 (acc ++ [(rdG L p).1]) := by rw [raGs, if_pos h]
def rdC (L : List UInt8) (p : Pt) : Nat × Pt := if 200 < (nx L p).1 then ((nx L p).1, dFail (nx L p).2.1 (nx L p).2.2 6) else nx L p
theorem rdA_bad {L : List UInt8} {p : Pt} (h : ¬ p.2 = 0) : (rdA L p).2 = p := by
  unfold rdA rdF f5 f4 f3 f2 f1
  simp only [rdV_bad h, nx_bad h, tx_bad h]
theorem rdG_bad {L : List UInt8} {p : Pt} (h : ¬ p.2 = 0) : (rdG L p).2 = p := by
  unfold rdG
  simp only [rdV_bad h, nx_bad h]
theorem rdAs_bad {L : List UInt8} : ∀ {n : Nat} {p : Pt} {acc : List Fil}, ¬ p.2 = 0 → (rdAs L n p acc).2 = p
  | 0, _, _, _ => rfl
  | n + 1, p, acc, h => by
    rw [rdAs, rdA_bad h]; exact rdAs_bad h
theorem rdGs_bad {L : List UInt8} : ∀ {n : Nat} {p : Pt} {acc : List Gon}, ¬ p.2 = 0 → (rdGs L n p acc).2 = p
  | 0, _, _, _ => rfl
  | n + 1, p, acc, h => by
    rw [rdGs, rdG_bad h]; exact rdGs_bad h
theorem raAs_same {L : List UInt8} : ∀ {n : Nat} {p : Pt} {acc : List Fil}, (raAs L n p acc).2 = (rdAs L n p acc).2 ∧ ((rdAs L n p acc).2.2 = 0 → raAs L n p acc = rdAs L n p acc)
  | 0, _, _ => ⟨rfl, fun _ => rfl⟩
  | n + 1, p, acc => by
    by_cases h : p.2 = 0
    · rw [raAs_on h, rdAs]; exact raAs_same
    · rw [raAs_bad h, rdAs_bad h]; exact ⟨rfl, fun h' => absurd h' h⟩
theorem raGs_same {L : List UInt8} : ∀ {n : Nat} {p : Pt} {acc : List Gon}, (raGs L n p acc).2 = (rdGs L n p acc).2 ∧ ((rdGs L n p acc).2.2 = 0 → raGs L n p acc = rdGs L n p acc)
  | 0, _, _ => ⟨rfl, fun _ => rfl⟩
  | n + 1, p, acc => by
    by_cases h : p.2 = 0
    · rw [raGs_on h, rdGs]; exact raGs_same
    · rw [raGs_bad h, rdGs_bad h]; exact ⟨rfl, fun h' => absurd h' h⟩
theorem rdC_same (L : List UInt8) (p : Pt) : (rdC L p).2 = (rdN L p).2 ∧ ((rdN L p).2.2 = 0 → rdC L p = rdN L p) := by
  unfold rdC rdN
  by_cases h : 200 < (nx L p).1
  · have h' : 200 < (dNum L p.1 p.2).1 := h
    rw [if_pos h, if_pos h']
    refine ⟨rfl, fun h2 => ?_⟩
    exfalso
    simp only at h2
    by_cases h3 : (dNum L p.1 p.2).2.2 = 0
    · rw [h3, dFail_ok] at h2; simp at h2
    · rw [dFail_bad h3] at h2; exact h3 h2
  · have h' : ¬ 200 < (dNum L p.1 p.2).1 := h
    rw [if_neg h, if_neg h']
    exact ⟨rfl, fun _ => rfl⟩
theorem tailA (L : List UInt8) (p : Pt) : (raAs L (rdC L p).1 (rdC L p).2 []).2 = (rdAs L (rdN L p).1 (rdN L p).2 []).2 ∧ ((rdAs L (rdN L p).1 (rdN L p).2 []).2.2 = 0 → raAs L (rdC L p).1 (rdC L p).2 [] = rdAs L (rdN L p).1 (rdN L p).2 []) := by
  obtain ⟨h1, h2⟩ := rdC_same L p
  by_cases h : (rdN L p).2.2 = 0
  · rw [h2 h]; exact raAs_same
  · have h' : ¬ (rdC L p).2.2 = 0 := by rw [h1]; exact h
    rw [raAs_bad h', rdAs_bad h]
    exact ⟨h1, fun h3 => absurd h3 h⟩
theorem tailG (L : List UInt8) (p : Pt) : (raGs L (rdC L p).1 (rdC L p).2 []).2 = (rdGs L (rdN L p).1 (rdN L p).2 []).2 ∧ ((rdGs L (rdN L p).1 (rdN L p).2 []).2.2 = 0 → raGs L (rdC L p).1 (rdC L p).2 [] = rdGs L (rdN L p).1 (rdN L p).2 []) := by
  obtain ⟨h1, h2⟩ := rdC_same L p
  by_cases h : (rdN L p).2.2 = 0
  · rw [h2 h]; exact raGs_same
  · have h' : ¬ (rdC L p).2.2 = 0 := by rw [h1]; exact h
    rw [raGs_bad h', rdGs_bad h]
    exact ⟨h1, fun h3 => absurd h3 h⟩
def kN (L : List UInt8) : Nat × Pt := rdC L (p3 L)
def kA (L : List UInt8) : List Fil × Pt := raAs L (kN L).1 (kN L).2 []
def hN (L : List UInt8) : Nat × Pt := rdC L (kA L).2
def hA (L : List UInt8) : List Gon × Pt := raGs L (hN L).1 (hN L).2 []
def qEd (L : List UInt8) : Edt := ⟨(nx L p0).1, (nx L (p1 L)).1, (nx L (p2 L)).1, (kA L).1, (hA L).1⟩
theorem kA_same (L : List UInt8) : (kA L).2 = (cA L).2 ∧ ((cA L).2.2 = 0 → kA L = cA L) := tailA L (p3 L)
theorem hA_same (L : List UInt8) : (hA L).2 = (gA L).2 ∧ ((gA L).2.2 = 0 → hA L = gA L) := by
  have h := tailG L (cA L).2
  unfold hA hN gA gN
  rw [(kA_same L).1]
  exact h
theorem qEr_same (L : List UInt8) : dEnd L.length (hA L).2.1 (hA L).2.2 = pEr L := by unfold pEr; rw [(hA_same L).1]
theorem qEd_same {L : List UInt8} (h : pEr L = 0) : qEd L = pEd L := by
  have h7 : (gA L).2.2 = 0 := by
    by_cases he : (gA L).2.2 = 0
    · exact he
    · unfold pEr at h; rw [dEnd_bad he] at h; exact h
  have h6 : (gN L).2.2 = 0 := rdGs_sticky h7
  have h5 : (cA L).2.2 = 0 := rdN_sticky h6
  unfold qEd pEd
  rw [(kA_same L).2 h5, (hA_same L).2 h7]
theorem raAs_okk {L : List UInt8} (hL : L.length ≤ 1000000) : ∀ (n : Nat) (p : Pt) (acc : List Fil), (∀ a ∈ acc, a.ok) → ∀ a ∈ (raAs L n p acc).1, a.ok
  | 0, _, _, h => h
  | n + 1, p, acc, h => by
    by_cases h0 : p.2 = 0
    · rw [raAs_on h0]
      exact raAs_okk hL n _ _ fun a ha => by
        rcases List.mem_append.1 ha with ha | ha
        · exact h a ha
        · rw [List.mem_singleton.1 ha]; exact rdA_okk hL p
    · rw [raAs_bad h0]; exact h
theorem raGs_okk {L : List UInt8} : ∀ (n : Nat) (p : Pt) (acc : List Gon), (∀ a ∈ acc, a.ok) → ∀ a ∈ (raGs L n p acc).1, a.ok
  | 0, _, _, h => h
  | n + 1, p, acc, h => by
    by_cases h0 : p.2 = 0
    · rw [raGs_on h0]
      exact raGs_okk n _ _ fun a ha => by
        rcases List.mem_append.1 ha with ha | ha
        · exact h a ha
        · rw [List.mem_singleton.1 ha]; exact rdG_okk L p
    · rw [raGs_bad h0]; exact h
theorem qEd_ok {L : List UInt8} (hL : L.length ≤ 1000000) : (qEd L).ok := ⟨nx_lt _ _, nx_lt _ _, nx_lt _ _, raAs_okk hL _ _ _ (fun a ha => by cases ha), raGs_okk _ _ _ (fun a ha => by cases ha)⟩
end Go.Proofs.YtomokbcamfmfcaaDoor.Ed
