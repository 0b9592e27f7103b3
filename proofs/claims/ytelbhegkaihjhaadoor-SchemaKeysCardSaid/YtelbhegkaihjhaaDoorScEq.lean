/-
  What a key of a market is of: both ways of telling come to the same; mathematics only. Conditions: as each theorem states.
-/
import Derived.Test.YtelbhegkaihjhaaDoorScMath
namespace Go.Proofs.YtelbhegkaihjhaaDoor
open Go.RowKit
open Vi

theorem bs1 (c d : UInt8) : bs [c] = bs [d] ↔ c = d := by
  constructor
  · intro h; have := congrArg (fun s : ByteArray => s.data.toList) h; simpa [bs] using this
  · rintro rfl; rfl
theorem formK_a : formK (bs [97]) = [97, 107] := if_pos rfl
theorem formK_o : formK (bs [111]) = [105] := by unfold formK; rw [if_neg (by rw [bs1]; decide), if_pos rfl]
theorem formK_b : formK (bs [98]) = [107, 112, 114, 105] := by unfold formK; rw [if_neg (by rw [bs1]; decide), if_neg (by rw [bs1]; decide), if_pos rfl]
theorem formK_e : formK (bs [101]) = [116, 105] := by unfold formK; rw [if_neg (by rw [bs1]; decide), if_neg (by rw [bs1]; decide), if_neg (by rw [bs1]; decide), if_pos rfl]
theorem formK_n : formK (bs [110]) = [110] := by unfold formK; rw [if_neg (by rw [bs1]; decide), if_neg (by rw [bs1]; decide), if_neg (by rw [bs1]; decide), if_neg (by rw [bs1]; decide), if_pos rfl]
theorem formK_none {s : ByteArray} (h1 : ¬ s = bs [97]) (h2 : ¬ s = bs [111]) (h3 : ¬ s = bs [98]) (h4 : ¬ s = bs [101]) (h5 : ¬ s = bs [110]) : formK s = [] := by
  unfold formK; rw [if_neg h1, if_neg h2, if_neg h3, if_neg h4, if_neg h5]
theorem partK_a (t : Th) : partK 97 t = kCount t.acct := if_pos rfl
theorem partK_k (t : Th) : partK 107 t = kUp t.kind := by unfold partK; rw [if_neg (by decide), if_pos rfl]
theorem partK_p (t : Th) : partK 112 t = if t.kind = 1 then kDown t.price else kUp t.price := by unfold partK; rw [if_neg (by decide), if_neg (by decide), if_pos rfl]
theorem partK_r (t : Th) : partK 114 t = kCount t.rank := by unfold partK; rw [if_neg (by decide), if_neg (by decide), if_neg (by decide), if_pos rfl]
theorem partK_i (t : Th) : partK 105 t = kCount t.id := by unfold partK; rw [if_neg (by decide), if_neg (by decide), if_neg (by decide), if_neg (by decide), if_pos rfl]
theorem partK_t (t : Th) : partK 116 t = kCount t.time := by unfold partK; rw [if_neg (by decide), if_neg (by decide), if_neg (by decide), if_neg (by decide), if_neg (by decide), if_pos rfl]
theorem partK_n (t : Th) : partK 110 t = kText t.name := by unfold partK; rw [if_neg (by decide), if_neg (by decide), if_neg (by decide), if_neg (by decide), if_neg (by decide), if_neg (by decide)]
theorem takeK_a (t : Th) (p : KPart) : takeK 97 t p = { t with acct := p.u } := if_pos rfl
theorem takeK_k (t : Th) (p : KPart) : takeK 107 t p = { t with kind := i32 p.n } := by unfold takeK; rw [if_neg (by decide), if_pos rfl]
theorem takeK_p (t : Th) (p : KPart) : takeK 112 t p = { t with price := p.n } := by unfold takeK; rw [if_neg (by decide), if_neg (by decide), if_pos rfl]
theorem takeK_r (t : Th) (p : KPart) : takeK 114 t p = { t with rank := p.u } := by unfold takeK; rw [if_neg (by decide), if_neg (by decide), if_neg (by decide), if_pos rfl]
theorem takeK_i (t : Th) (p : KPart) : takeK 105 t p = { t with id := p.u } := by unfold takeK; rw [if_neg (by decide), if_neg (by decide), if_neg (by decide), if_neg (by decide), if_pos rfl]
theorem takeK_t (t : Th) (p : KPart) : takeK 116 t p = { t with time := p.u } := by unfold takeK; rw [if_neg (by decide), if_neg (by decide), if_neg (by decide), if_neg (by decide), if_neg (by decide), if_pos rfl]
theorem takeK_n (t : Th) (p : KPart) : takeK 110 t p = { t with name := p.s } := by unfold takeK; rw [if_neg (by decide), if_neg (by decide), if_neg (by decide), if_neg (by decide), if_neg (by decide), if_neg (by decide), if_pos rfl]
/-- a row of parts that were read is its thing's just if it is made so -/
theorem row_made {a : List KPart} {K : List UInt8} (hK : K.length ≤ 200) (hp : pparts K = some a) {b : List KPart} (ho : ∀ p ∈ b, p.ok) (hpl : ∀ p ∈ b, pplain p = p) :
    mkGo [] b = (K, 0) ↔ b = a := by
  obtain ⟨e, hr⟩ := pparts_back K.length K a (Nat.le_refl _) hK hp
  constructor
  · intro h
    have := pparts_made ho h
    rw [hp, plain_map b hpl] at this
    injection this with this
    exact this.symm
  · rintro rfl
    rw [mkGo_all b [] (fun p h => (hr p h).1) (by rw [← e]; simpa using hK), ← e]; rfl
theorem kUp_eq {n m : Int} : kUp n = kUp m ↔ n = m := ⟨fun h => congrArg KPart.n h, fun h => by rw [h]⟩
theorem kUp_n (n : Int) : (kUp n).n = n := rfl
theorem kDown_n (n : Int) : (kDown n).n = n := rfl
theorem fit_part {p : KPart} : kUp (i32 p.n) = p ↔ fits p.n ∧ kUp p.n = p := by
  constructor
  · intro h
    have hn : i32 p.n = p.n := congrArg KPart.n h
    refine ⟨hn ▸ i32_in p.n, by rw [hn] at h; exact h⟩
  · rintro ⟨h1, h2⟩; rw [i32_fits h1]; exact h2
theorem plain_text {p : KPart} (h : pplain p = p) (hs : p.sort = 116) : kText p.s = p := by
  unfold pplain at h; rw [hs] at h; simpa using h
theorem plain_other {p : KPart} (h : pplain p = p) (hs : ¬ p.sort = 116) : p.s = bs [] := by
  rw [← h]; unfold pplain
  split
  · rfl
  · split
    · rfl
    · split
      · rfl
      · first | (rw [if_neg hs]; rfl) | rfl
def PartsOk (l : List KPart) : Prop := ∀ p ∈ l, p.ok
theorem rowK_ok {t : Th} (h : t.ok) : ∀ p ∈ rowK t, p.ok := by
  obtain ⟨h1, h2, ⟨h3, h4⟩, ⟨h5, h6⟩, h7, h8⟩ := h
  have each : ∀ c, (partK c t).ok := fun c => by
    unfold partK
    split
    · exact kok_count h1
    split
    · exact kok_up h3 h4
    split
    · split
      · exact kok_down h5 h6
      · exact kok_up h5 h6
    split
    · exact kok_count h7
    split
    · exact kok_count h2
    split
    · exact kok_count h8
    · exact kok_text _
  intro p hp
  rcases List.mem_cons.1 hp with rfl | hp
  · exact kok_text _
  · obtain ⟨c, _, rfl⟩ := List.mem_map.1 hp; exact each c
theorem rowK_plain (t : Th) : ∀ p ∈ rowK t, pplain p = p := by
  have each : ∀ c, pplain (partK c t) = partK c t := fun c => by
    unfold partK
    split
    · rfl
    split
    · rfl
    split
    · split <;> rfl
    split
    · rfl
    split
    · rfl
    split
    · rfl
    · rfl
  intro p hp
  rcases List.mem_cons.1 hp with rfl | hp
  · rfl
  · obtain ⟨c, _, rfl⟩ := List.mem_map.1 hp; exact each c
theorem bs_apart {s : ByteArray} {c d : UInt8} (h : s = bs [c]) (hd : ¬ c = d) : ¬ s = bs [d] := fun e => hd ((bs1 c d).1 (h.symm.trans e))
theorem docTail_a {s : ByteArray} (h : s = bs [97]) (p : KPart) (l : List KPart) : docTail s p l = some (docA s p l) := if_pos h
theorem docTail_o {s : ByteArray} (h : s = bs [111]) (p : KPart) (l : List KPart) : docTail s p l = some ⟨s, 0, p.u, 0, 0, 0, 0, ⟨#[]⟩⟩ := by
  unfold docTail; rw [if_neg (bs_apart h (by decide)), if_pos h]
theorem docTail_b {s : ByteArray} (h : s = bs [98]) (p : KPart) (l : List KPart) : docTail s p l = some (docB s p l) := by
  unfold docTail; rw [if_neg (bs_apart h (by decide)), if_neg (bs_apart h (by decide)), if_pos h]
theorem docTail_e {s : ByteArray} (h : s = bs [101]) (p : KPart) (l : List KPart) : docTail s p l = some (docE s p l) := by
  unfold docTail; rw [if_neg (bs_apart h (by decide)), if_neg (bs_apart h (by decide)), if_neg (bs_apart h (by decide)), if_pos h]
theorem docTail_n {s : ByteArray} (h : s = bs [110]) (p : KPart) (l : List KPart) : docTail s p l = some ⟨s, 0, 0, 0, 0, 0, 0, p.s⟩ := by
  unfold docTail; rw [if_neg (bs_apart h (by decide)), if_neg (bs_apart h (by decide)), if_neg (bs_apart h (by decide)), if_neg (bs_apart h (by decide)), if_pos h]
theorem docTail_no {s : ByteArray} (h1 : ¬ s = bs [97]) (h2 : ¬ s = bs [111]) (h3 : ¬ s = bs [98]) (h4 : ¬ s = bs [101]) (h5 : ¬ s = bs [110]) (p : KPart) (l : List KPart) : docTail s p l = none := by
  unfold docTail; rw [if_neg h1, if_neg h2, if_neg h3, if_neg h4, if_neg h5]
theorem docRow_t {p0 p1 : KPart} {l : List KPart} (h : p0.sort = 116) : docRow (p0 :: p1 :: l) = docTail p0.s p1 l := if_pos h
theorem docRow_x {p0 p1 : KPart} {l : List KPart} (h : ¬ p0.sort = 116) : docRow (p0 :: p1 :: l) = none := if_neg h
theorem rowParse_no {p : KPart} {l : List KPart} (h : formK p.s = [] ∨ l.length ≠ (formK p.s).length) : rowParse (p :: l) = none := if_pos h
theorem rowParse_on {p : KPart} {l : List KPart} {f : List UInt8} (h : formK p.s = f) (h0 : ¬ f = []) (hl : l.length = f.length) : rowParse (p :: l) = goK f l (Th.zero p.s) := by
  have e : rowParse (p :: l) = if formK p.s = [] ∨ l.length ≠ (formK p.s).length then none else goK (formK p.s) l (Th.zero p.s) := rfl
  rw [e, h, if_neg (by rintro (h | h); exact h0 h; exact h hl)]
def docEnd (a : List KPart) (t : Th) : Option Th := if fits t.kind ∧ rowK t = a then some t else none
theorem docEnd_off {a : List KPart} {t : Th} (h : ¬ a.length = (formK t.sort).length + 1) : docEnd a t = none := by
  unfold docEnd; rw [if_neg]
  rintro ⟨_, e⟩
  have := congrArg List.length e
  unfold rowK at this; simp at this; omega
theorem goK_nil (x : Th) : goK [] [] x = some x := rfl
theorem goK_on {c : UInt8} {f : List UInt8} {p : KPart} {l : List KPart} {x : Th} (h : partK c (takeK c x p) = p) : goK (c :: f) (p :: l) x = goK f l (takeK c x p) := by rw [goK, if_pos h]
theorem goK_off {c : UInt8} {f : List UInt8} {p : KPart} {l : List KPart} {x : Th} (h : ¬ partK c (takeK c x p) = p) : goK (c :: f) (p :: l) x = none := by rw [goK, if_neg h]
theorem fz : fits 0 := by unfold fits; omega
theorem rowK_at {t : Th} {f : List UInt8} (h : formK t.sort = f) : rowK t = kText t.sort :: f.map (partK · t) := by unfold rowK; rw [h]
theorem same_a {p0 p1 : KPart} {l : List KPart} (c : p0.s = bs [97]) (e0 : kText p0.s = p0) : rowParse (p0 :: p1 :: l) = docEnd (p0 :: p1 :: l) (docA p0.s p1 l) := by
  have hf : formK p0.s = [97, 107] := by rw [c, formK_a]
  match l with
  | [] => rw [rowParse_no (.inr (by rw [hf]; simp)), docEnd_off (by show ¬ _ = (formK p0.s).length + 1; rw [hf]; simp)]
  | p2 :: p3 :: l => rw [rowParse_no (.inr (by rw [hf]; simp)), docEnd_off (by show ¬ _ = (formK p0.s).length + 1; rw [hf]; simp)]
  | [p2] =>
    rw [rowParse_on hf (by simp) (by simp)]
    have hr : rowK (docA p0.s p1 [p2]) = [p0, kCount p1.u, kUp p2.n] := by
      rw [rowK_at (show formK (docA p0.s p1 [p2]).sort = _ from hf)]
      simp only [List.map_cons, List.map_nil, partK_a, partK_k, docA, e0]
    unfold docEnd; rw [hr]
    by_cases q1 : kCount p1.u = p1
    · rw [goK_on (by rw [takeK_a, partK_a]; exact q1), q1]
      by_cases q2 : kUp (i32 p2.n) = p2
      · have q3 := fit_part.1 q2
        rw [goK_on (by rw [takeK_k, partK_k]; exact q2), goK_nil, if_pos ⟨q3.1, by rw [q3.2]⟩, takeK_k, takeK_a, i32_fits q3.1]; rfl
      · rw [goK_off (by rw [takeK_k, partK_k]; exact q2), if_neg]
        rintro ⟨h1, h2⟩; injection h2 with _ h2; injection h2 with _ h2; injection h2 with h2 _
        exact q2 (fit_part.2 ⟨h1, h2⟩)
    · rw [goK_off (by rw [takeK_a, partK_a]; exact q1), if_neg]
      rintro ⟨h1, h2⟩; injection h2 with _ h2; injection h2 with h2 _; exact q1 h2
theorem same_e {p0 p1 : KPart} {l : List KPart} (c : p0.s = bs [101]) (e0 : kText p0.s = p0) : rowParse (p0 :: p1 :: l) = docEnd (p0 :: p1 :: l) (docE p0.s p1 l) := by
  have hf : formK p0.s = [116, 105] := by rw [c, formK_e]
  match l with
  | [] => rw [rowParse_no (.inr (by rw [hf]; simp)), docEnd_off (by show ¬ _ = (formK p0.s).length + 1; rw [hf]; simp)]
  | p2 :: p3 :: l => rw [rowParse_no (.inr (by rw [hf]; simp)), docEnd_off (by show ¬ _ = (formK p0.s).length + 1; rw [hf]; simp)]
  | [p2] =>
    rw [rowParse_on hf (by simp) (by simp)]
    have hr : rowK (docE p0.s p1 [p2]) = [p0, kCount p1.u, kCount p2.u] := by
      rw [rowK_at (show formK (docE p0.s p1 [p2]).sort = _ from hf)]
      simp only [List.map_cons, List.map_nil, partK_t, partK_i, docE, e0]
    unfold docEnd; rw [hr]
    by_cases q1 : kCount p1.u = p1
    · rw [goK_on (by rw [takeK_t, partK_t]; exact q1), q1]
      by_cases q2 : kCount p2.u = p2
      · rw [goK_on (by rw [takeK_i, partK_i]; exact q2), goK_nil, if_pos ⟨fz, by rw [q2]⟩, takeK_i, takeK_t]; rfl
      · rw [goK_off (by rw [takeK_i, partK_i]; exact q2), if_neg]
        rintro ⟨h1, h2⟩; injection h2 with _ h2; injection h2 with _ h2; injection h2 with h2 _; exact q2 h2
    · rw [goK_off (by rw [takeK_t, partK_t]; exact q1), if_neg]
      rintro ⟨h1, h2⟩; injection h2 with _ h2; injection h2 with h2 _; exact q1 h2
theorem same_o {p0 p1 : KPart} {l : List KPart} (c : p0.s = bs [111]) (e0 : kText p0.s = p0) : rowParse (p0 :: p1 :: l) = docEnd (p0 :: p1 :: l) ⟨p0.s, 0, p1.u, 0, 0, 0, 0, ⟨#[]⟩⟩ := by
  have hf : formK p0.s = [105] := by rw [c, formK_o]
  match l with
  | p2 :: l => rw [rowParse_no (.inr (by rw [hf]; simp)), docEnd_off (by show ¬ _ = (formK p0.s).length + 1; rw [hf]; simp)]
  | [] =>
    rw [rowParse_on hf (by simp) (by simp)]
    have hr : rowK ⟨p0.s, 0, p1.u, 0, 0, 0, 0, ⟨#[]⟩⟩ = [p0, kCount p1.u] := by
      rw [rowK_at (show formK p0.s = _ from hf)]
      simp only [List.map_cons, List.map_nil, partK_i, e0]
    unfold docEnd; rw [hr]
    by_cases q1 : kCount p1.u = p1
    · rw [goK_on (by rw [takeK_i, partK_i]; exact q1), goK_nil, if_pos ⟨fz, by rw [q1]⟩, takeK_i]; rfl
    · rw [goK_off (by rw [takeK_i, partK_i]; exact q1), if_neg]
      rintro ⟨h1, h2⟩; injection h2 with _ h2; injection h2 with h2 _; exact q1 h2
theorem same_n {p0 p1 : KPart} {l : List KPart} (c : p0.s = bs [110]) (e0 : kText p0.s = p0) : rowParse (p0 :: p1 :: l) = docEnd (p0 :: p1 :: l) ⟨p0.s, 0, 0, 0, 0, 0, 0, p1.s⟩ := by
  have hf : formK p0.s = [110] := by rw [c, formK_n]
  match l with
  | p2 :: l => rw [rowParse_no (.inr (by rw [hf]; simp)), docEnd_off (by show ¬ _ = (formK p0.s).length + 1; rw [hf]; simp)]
  | [] =>
    rw [rowParse_on hf (by simp) (by simp)]
    have hr : rowK ⟨p0.s, 0, 0, 0, 0, 0, 0, p1.s⟩ = [p0, kText p1.s] := by
      rw [rowK_at (show formK p0.s = _ from hf)]
      simp only [List.map_cons, List.map_nil, partK_n, e0]
    unfold docEnd; rw [hr]
    by_cases q1 : kText p1.s = p1
    · rw [goK_on (by rw [takeK_n, partK_n]; exact q1), goK_nil, if_pos ⟨fz, by rw [q1]⟩, takeK_n]; rfl
    · rw [goK_off (by rw [takeK_n, partK_n]; exact q1), if_neg]
      rintro ⟨h1, h2⟩; injection h2 with _ h2; injection h2 with h2 _; exact q1 h2
theorem same_b {p0 p1 : KPart} {l : List KPart} (c : p0.s = bs [98]) (e0 : kText p0.s = p0) : rowParse (p0 :: p1 :: l) = docEnd (p0 :: p1 :: l) (docB p0.s p1 l) := by
  have hf : formK p0.s = [107, 112, 114, 105] := by rw [c, formK_b]
  match l with
  | [] => rw [rowParse_no (.inr (by rw [hf]; simp)), docEnd_off (by show ¬ _ = (formK p0.s).length + 1; rw [hf]; simp)]
  | [p2] => rw [rowParse_no (.inr (by rw [hf]; simp)), docEnd_off (by show ¬ _ = (formK p0.s).length + 1; rw [hf]; simp)]
  | [p2, p3] => rw [rowParse_no (.inr (by rw [hf]; simp)), docEnd_off (by show ¬ _ = (formK p0.s).length + 1; rw [hf]; simp)]
  | p2 :: p3 :: p4 :: p5 :: l => rw [rowParse_no (.inr (by rw [hf]; simp)), docEnd_off (by show ¬ _ = (formK p0.s).length + 1; rw [hf]; simp)]
  | [p2, p3, p4] =>
    rw [rowParse_on hf (by simp) (by simp)]
    have hr : rowK (docB p0.s p1 [p2, p3, p4]) = [p0, kUp p1.n, if p1.n = 1 then kDown p2.n else kUp p2.n, kCount p3.u, kCount p4.u] := by
      rw [rowK_at (show formK (docB p0.s p1 [p2, p3, p4]).sort = _ from hf)]
      simp only [List.map_cons, List.map_nil, partK_k, partK_p, partK_r, partK_i, docB, e0]
    unfold docEnd; rw [hr]
    by_cases q1 : kUp (i32 p1.n) = p1
    · have q3 := fit_part.1 q1
      rw [goK_on (by rw [takeK_k, partK_k]; exact q1), takeK_k, i32_fits q3.1, q3.2]
      by_cases q2 : (if p1.n = 1 then kDown p2.n else kUp p2.n) = p2
      · rw [goK_on (by rw [takeK_p, partK_p]; exact q2), takeK_p, q2]
        by_cases q4 : kCount p3.u = p3
        · rw [goK_on (by rw [takeK_r, partK_r]; exact q4), takeK_r, q4]
          by_cases q5 : kCount p4.u = p4
          · rw [goK_on (by rw [takeK_i, partK_i]; exact q5), goK_nil, if_pos ⟨q3.1, by rw [q5]⟩, takeK_i]; rfl
          · rw [goK_off (by rw [takeK_i, partK_i]; exact q5), if_neg]
            rintro ⟨h1, h2⟩; simp only [List.cons.injEq] at h2; exact q5 h2.2.2.2.2.1
        · rw [goK_off (by rw [takeK_r, partK_r]; exact q4), if_neg]
          rintro ⟨h1, h2⟩; simp only [List.cons.injEq] at h2; exact q4 h2.2.2.2.1
      · rw [goK_off (by rw [takeK_p, partK_p]; exact q2), if_neg]
        rintro ⟨h1, h2⟩; simp only [List.cons.injEq] at h2; exact q2 h2.2.2.1
    · rw [goK_off (by rw [takeK_k, partK_k]; exact q1), if_neg]
      rintro ⟨h1, h2⟩; simp only [List.cons.injEq] at h2; exact q1 (fit_part.2 ⟨h1, h2.2.1⟩)
/-- both Parses, by the parts -/
theorem rows_same {a : List KPart} (h : ∀ p ∈ a, Read p) : rowParse a = match docRow a with
    | none => none
    | some t => docEnd a t := by
  match a, h with
  | [], _ => rfl
  | [p], h =>
    show rowParse [p] = none
    by_cases hf : formK p.s = []
    · exact rowParse_no (.inl hf)
    · exact rowParse_no (.inr fun e => hf (List.eq_nil_of_length_eq_zero e.symm))
  | p0 :: p1 :: l, h =>
    have r0 := h p0 (by simp)
    by_cases hs : p0.sort = 116
    · have e0 := plain_text r0.2.2.1 hs
      rw [docRow_t hs]
      by_cases c1 : p0.s = bs [97]
      · rw [docTail_a c1]; exact same_a c1 e0
      by_cases c2 : p0.s = bs [111]
      · rw [docTail_o c2]; exact same_o c2 e0
      by_cases c3 : p0.s = bs [98]
      · rw [docTail_b c3]; exact same_b c3 e0
      by_cases c4 : p0.s = bs [101]
      · rw [docTail_e c4]; exact same_e c4 e0
      by_cases c5 : p0.s = bs [110]
      · rw [docTail_n c5]; exact same_n c5 e0
      rw [docTail_no c1 c2 c3 c4 c5]
      exact rowParse_no (.inl (formK_none c1 c2 c3 c4 c5))
    · have e := plain_other r0.2.2.1 hs
      have hf : formK p0.s = [] := by
        rw [e]
        have hn : ∀ c : UInt8, ¬ bs [] = bs [c] := fun c h => by have := congrArg ByteArray.size h; rw [bs_size, bs_size] at this; cases this
        exact formK_none (hn _) (hn _) (hn _) (hn _) (hn _)
      rw [docRow_x hs]
      exact rowParse_no (.inl hf)
theorem zero_ok (s : ByteArray) : (Th.zero s).ok := by refine ⟨?_, ?_, ⟨?_, ?_⟩, ⟨?_, ?_⟩, ?_, ?_⟩ <;> simp [Th.zero]
theorem docRow_ok {a : List KPart} (h : ∀ p ∈ a, Read p) {t : Th} (e : docRow a = some t) : t.ok := by
  match a, h, e with
  | [], _, e => cases e
  | [_], _, e => cases e
  | p0 :: p1 :: l, h, e =>
    obtain ⟨_, ⟨_, o1, o2, o3⟩, _⟩ := h p1 (by simp)
    have z := zero_ok p0.s
    have b0 : (0 : Nat) < 18446744073709551616 := by decide
    have b1 : (-9223372036854775808 : Int) ≤ 0 ∧ (0 : Int) ≤ 9223372036854775807 := by decide
    by_cases hs : p0.sort = 116
    · rw [docRow_t hs] at e
      unfold docTail at e
      split at e
      · injection e with e; subst e
        match l, h with
        | [], _ => exact z
        | _ :: _ :: _, _ => exact z
        | [p2], h =>
          obtain ⟨_, ⟨_, q1, q2, q3⟩, _⟩ := h p2 (by simp)
          exact ⟨o3, b0, ⟨q1, q2⟩, b1, b0, b0⟩
      split at e
      · injection e with e; subst e; exact ⟨b0, o3, b1, b1, b0, b0⟩
      split at e
      · injection e with e; subst e
        match l, h with
        | [], _ => exact z
        | [_], _ => exact z
        | [_, _], _ => exact z
        | _ :: _ :: _ :: _ :: _, _ => exact z
        | [p2, p3, p4], h =>
          obtain ⟨_, ⟨_, q1, q2, q3⟩, _⟩ := h p2 (by simp)
          obtain ⟨_, ⟨_, _, _, s3⟩, _⟩ := h p3 (by simp)
          obtain ⟨_, ⟨_, _, _, t3⟩, _⟩ := h p4 (by simp)
          exact ⟨b0, t3, ⟨o1, o2⟩, ⟨q1, q2⟩, s3, b0⟩
      split at e
      · injection e with e; subst e
        match l, h with
        | [], _ => exact z
        | _ :: _ :: _, _ => exact z
        | [p2], h =>
          obtain ⟨_, ⟨_, _, _, q3⟩, _⟩ := h p2 (by simp)
          exact ⟨b0, q3, b1, b1, b0, o3⟩
      split at e
      · injection e with e; subst e; exact ⟨b0, b0, b1, b1, b0, b0⟩
      · cases e
    · rw [docRow_x hs] at e; cases e
/-- the document's Parse and the program's -/
theorem doc_parse (K : List UInt8) : docParse K = parseK K := by
  unfold docParse parseK
  by_cases h2 : 200 < K.length
  · rw [if_pos h2, if_pos h2]
  · rw [if_neg h2, if_neg h2]
    cases hp : pparts K with
    | none => rfl
    | some a =>
      obtain ⟨_, hr⟩ := pparts_back K.length K a (Nat.le_refl _) (by omega) hp
      simp only
      rw [rows_same hr]
      cases hd : docRow a with
      | none => rfl
      | some t =>
        simp only
        have ht := docRow_ok hr hd
        have hm := row_made (by omega) hp (rowK_ok ht) (rowK_plain t)
        unfold docEnd
        by_cases hf : fits t.kind ∧ rowK t = a
        · rw [if_pos hf, if_pos ⟨hf.1, hm.2 hf.2⟩]
        · rw [if_neg hf, if_neg (fun h => hf ⟨h.1, hm.1 h.2⟩)]
end Go.Proofs.YtelbhegkaihjhaaDoor
