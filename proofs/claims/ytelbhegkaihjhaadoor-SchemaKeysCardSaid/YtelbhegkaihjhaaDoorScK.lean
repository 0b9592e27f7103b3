/-
  The document's keys of a market, walked: its Parse. Conditions: as each theorem states.
-/
import Derived.Test.YtelbhegkaihjhaaDoorScJ1
import Derived.Test.YtelbhegkaihjhaaDoorScJ2
import Derived.Test.YtelbhegkaihjhaaDoorScJ3
import Derived.Test.YtelbhegkaihjhaaDoorScJ4
namespace Go.Proofs.YtelbhegkaihjhaaDoor
open Go.RowKit
open Vi

/-- how a thing's key and the fit of its number end its parsing -/
theorem rend_any {w : World} (K : List UInt8) (x : Th) (hx : x.ok) (hf : ¬ formK x.sort = []) (hs : x.sort.size ≤ 1000) (hn : x.name.size ≤ 1000)
    (lo : x.kind < -2147483648 → Calls Tryd.prog 11 #[.string (bs K)] w fun e w' => e = .returned (thOut none) ∧ Below w.heap.size w w')
    (hi : ¬ x.kind < -2147483648 → 2147483647 < x.kind → Calls Tryd.prog 11 #[.string (bs K)] w fun e w' => e = .returned (thOut none) ∧ Below w.heap.size w w')
    (err : ¬ x.kind < -2147483648 → ¬ 2147483647 < x.kind → ∀ KB EV, (EV != 0) = true → Hid (∀ W : World, Calls Tryd.prog 8 #[x.val] W fun e w' => e = .returned (.tuple #[.string (bs KB), .int .i64 EV]) ∧ Below W.heap.size W w') →
      Calls Tryd.prog 11 #[.string (bs K)] w fun e w' => e = .returned (thOut none) ∧ Below w.heap.size w w')
    (off : ¬ x.kind < -2147483648 → ¬ 2147483647 < x.kind → ∀ KB, (KB == K) = false → Hid (∀ W : World, Calls Tryd.prog 8 #[x.val] W fun e w' => e = .returned (.tuple #[.string (bs KB), .int .i64 0]) ∧ Below W.heap.size W w') →
      Calls Tryd.prog 11 #[.string (bs K)] w fun e w' => e = .returned (thOut none) ∧ Below w.heap.size w w')
    (ok : ¬ x.kind < -2147483648 → ¬ 2147483647 < x.kind → Hid (∀ W : World, Calls Tryd.prog 8 #[x.val] W fun e w' => e = .returned (.tuple #[.string (bs K), .int .i64 0]) ∧ Below W.heap.size W w') →
      Calls Tryd.prog 11 #[.string (bs K)] w fun e w' => e = .returned (thOut (some x)) ∧ Below w.heap.size w w') :
    Calls Tryd.prog 11 #[.string (bs K)] w fun e w' => e = .returned (thOut (if fits x.kind ∧ mkGo [] (rowK x) = (K, 0) then some x else none)) ∧ Below w.heap.size w w' := by
  have RK := fun (W : World) => rkey_any (w := W) x hx hf hs hn
  unfold keyB keyE at RK
  by_cases h1 : x.kind < -2147483648
  · rw [if_neg (fun h => by have := h.1; unfold fits at this; omega)]; exact lo h1
  by_cases h2 : 2147483647 < x.kind
  · rw [if_neg (fun h => by have := h.1; unfold fits at this; omega)]; exact hi h1 h2
  have hfit : fits x.kind := by unfold fits; omega
  generalize mkGo [] (rowK x) = r at RK ⊢
  obtain ⟨KB, EV⟩ := r
  by_cases hE : EV = 0
  · subst hE
    by_cases hK : KB = K
    · subst hK; rw [if_pos ⟨hfit, rfl⟩]; exact ok h1 h2 RK
    · rw [if_neg (fun h => hK (congrArg Prod.fst h.2))]; exact off h1 h2 KB (by simpa using hK) RK
  · rw [if_neg (fun h => hE (congrArg Prod.snd h.2))]; exact err h1 h2 KB EV (by simpa using hE) RK
theorem docRow_small {a : List KPart} (h : ∀ p ∈ a, Read p) {t : Th} (e : docRow a = some t) : t.name.size ≤ 1000 := by
  match a, h, e with
  | [], _, e => cases e
  | [_], _, e => cases e
  | p0 :: p1 :: l, h, e =>
    have z : (⟨#[]⟩ : ByteArray).size ≤ 1000 := by decide
    have h1 := (h p1 (by simp)).2.2.2
    by_cases hs : p0.sort = 116
    · rw [docRow_t hs] at e
      unfold docTail at e
      split at e
      · injection e with e; subst e
        match l with
        | [] => exact z
        | _ :: _ :: _ => exact z
        | [p2] => exact z
      split at e
      · injection e with e; subst e; exact z
      split at e
      · injection e with e; subst e
        match l with
        | [] => exact z
        | [_] => exact z
        | [_, _] => exact z
        | _ :: _ :: _ :: _ :: _ => exact z
        | [p2, p3, p4] => exact z
      split at e
      · injection e with e; subst e
        match l with
        | [] => exact z
        | _ :: _ :: _ => exact z
        | [p2] => exact z
      split at e
      · injection e with e; subst e; show p1.s.size ≤ 1000; omega
      · cases e
    · rw [docRow_x hs] at e; cases e
theorem pparts_len : ∀ (n : Nat) (l : List UInt8) (a : List KPart), l.length ≤ n → pparts l = some a → a.length ≤ l.length
  | n, [], a, _, h => by rw [pparts_nil] at h; injection h with h; subst h; simp
  | 0, c :: l, a, hn, _ => by simp at hn
  | n + 1, c :: l, a, hn, h => by
    cases hq : pfirst (c :: l) with
    | none => rw [pparts_none (by simp) hq] at h; cases h
    | some x =>
      obtain ⟨p, r⟩ := x
      have hlen := pfirst_len hq
      rw [pparts_some hq] at h
      cases hr : pparts r with
      | none => rw [hr] at h; cases h
      | some a2 =>
        rw [hr] at h
        simp only [Option.map_some, Option.some.injEq] at h
        subst h
        have := pparts_len n r a2 (by omega) hr
        simp only [List.length_cons] at *; omega
set_option maxRecDepth 100000 in
theorem rparse_all {w : World} (K : List UInt8) (hK : K.length ≤ 1000) :
    Calls Tryd.prog 11 #[.string (bs K)] w fun e w' => e = .returned (thOut (docParse K)) ∧ Below w.heap.size w w' := by
  unfold docParse
  by_cases h2 : 200 < K.length
  · rw [if_pos h2]; exact rparse_bad K hK (.inl h2)
  · rw [if_neg h2]
    have hK2 : K.length ≤ 200 := by omega
    cases hp : pparts K with
    | none => exact rparse_bad K hK (.inr hp)
    | some a =>
      obtain ⟨_, hr⟩ := pparts_back K.length K a (Nat.le_refl _) hK2 hp
      have hlen := pparts_len K.length K a (Nat.le_refl _) hp
      simp only
      cases hd : docRow a with
      | none =>
        simp only
        match a, hp, hr, hd, hlen with
        | [], hp, _, _, _ => exact rparse_few K hK2 [] hp (by simp)
        | [p], hp, _, _, _ => exact rparse_few K hK2 [p] hp (by simp)
        | ⟨s0, n0, u0, t0⟩ :: p1 :: l, hp, hr, hd, hlen =>
          have hl : l.length ≤ 1000 := by simp at hlen; omega
          by_cases hs : s0 = 116
          · subst hs
            rw [docRow_t rfl] at hd
            have no : ∀ c : UInt8, docTail (bs [c]) p1 l ≠ none → ¬ t0 = bs [c] := fun c h e => by
              rw [← e] at h; exact h hd
            exact rparse_none K hK2 n0 u0 t0 p1 l hl hp (no 97 (by rw [docTail_a rfl]; simp)) (no 111 (by rw [docTail_o rfl]; simp)) (no 98 (by rw [docTail_b rfl]; simp)) (no 101 (by rw [docTail_e rfl]; simp)) (no 110 (by rw [docTail_n rfl]; simp))
          · exact rparse_sort K hK2 s0 n0 u0 t0 p1 l hp (by simp; omega) hl
      | some x =>
        simp only
        have hxo := docRow_ok hr hd
        have hxn := docRow_small hr hd
        match a, hp, hr, hd, hlen with
        | [], _, _, hd, _ => cases hd
        | [_], _, _, hd, _ => cases hd
        | ⟨s0, n0, u0, t0⟩ :: ⟨s1, n1, u1, t1⟩ :: l, hp, hr, hd, hlen =>
          have hl : l.length ≤ 1000 := by simp at hlen; omega
          by_cases hs : s0 = 116
          · subst hs
            rw [docRow_t rfl] at hd
            clear hr hlen
            by_cases c1 : t0 = bs [97]
            · subst c1
              rw [docTail_a rfl] at hd; injection hd with hd; subst hd
              match l, hl, hp, hxo, hxn with
              | [], hl, hp, hxo, hxn => exact rend_any K (docA (bs [97]) ⟨s1, n1, u1, t1⟩ []) hxo (by show ¬ formK (bs [97]) = []; rw [formK_a]; simp) (one_size _) hxn (fun h => absurd h (by show ¬ (0 : Int) < -2147483648; decide)) (fun _ h => absurd h (by show ¬ (2147483647 : Int) < 0; decide)) (fun h1 h2 KB EV hE HK => rparse_aX_err K hK2 n0 u0 s1 n1 u1 t1 [] hl (by simp) hp KB EV hE HK) (fun h1 h2 KB hE HK => rparse_aX_off K hK2 n0 u0 s1 n1 u1 t1 [] hl (by simp) hp KB hE HK) (fun h1 h2 HK => rparse_aX_ok K hK2 n0 u0 s1 n1 u1 t1 [] hl (by simp) hp HK)
              | [⟨s2, n2, u2, t2⟩], hl, hp, hxo, hxn => exact rend_any K (docA (bs [97]) ⟨s1, n1, u1, t1⟩ [⟨s2, n2, u2, t2⟩]) hxo (by show ¬ formK (bs [97]) = []; rw [formK_a]; simp) (one_size _) hxn (fun h1 => rparse_a3_lo K hK2 n0 u0 s1 n1 u1 t1 s2 n2 u2 t2  hp h1) (fun h1 h2 => rparse_a3_hi K hK2 n0 u0 s1 n1 u1 t1 s2 n2 u2 t2  hp h1 h2) (fun h1 h2 KB EV hE HK => rparse_a3_err K hK2 n0 u0 s1 n1 u1 t1 s2 n2 u2 t2  hp h1 h2 KB EV hE HK) (fun h1 h2 KB hE HK => rparse_a3_off K hK2 n0 u0 s1 n1 u1 t1 s2 n2 u2 t2  hp h1 h2 KB hE HK) (fun h1 h2 HK => rparse_a3_ok K hK2 n0 u0 s1 n1 u1 t1 s2 n2 u2 t2  hp h1 h2 HK)
              | p2 :: p3 :: l, hl, hp, hxo, hxn => exact rend_any K (docA (bs [97]) ⟨s1, n1, u1, t1⟩ (p2 :: p3 :: l)) hxo (by show ¬ formK (bs [97]) = []; rw [formK_a]; simp) (one_size _) hxn (fun h => absurd h (by show ¬ (0 : Int) < -2147483648; decide)) (fun _ h => absurd h (by show ¬ (2147483647 : Int) < 0; decide)) (fun h1 h2 KB EV hE HK => rparse_aX_err K hK2 n0 u0 s1 n1 u1 t1 (p2 :: p3 :: l) hl (by simp) hp KB EV hE HK) (fun h1 h2 KB hE HK => rparse_aX_off K hK2 n0 u0 s1 n1 u1 t1 (p2 :: p3 :: l) hl (by simp) hp KB hE HK) (fun h1 h2 HK => rparse_aX_ok K hK2 n0 u0 s1 n1 u1 t1 (p2 :: p3 :: l) hl (by simp) hp HK)
            by_cases c2 : t0 = bs [111]
            · subst c2
              rw [docTail_o rfl] at hd; injection hd with hd; subst hd
              exact rend_any K _ hxo (by show ¬ formK (bs [111]) = []; rw [formK_o]; simp) (one_size _) hxn (fun h => absurd h (by show ¬ (0 : Int) < -2147483648; decide)) (fun _ h => absurd h (by show ¬ (2147483647 : Int) < 0; decide)) (fun h1 h2 KB EV hE HK => rparse_o_err K hK2 n0 u0 s1 n1 u1 t1 l hl hp KB EV hE HK) (fun h1 h2 KB hE HK => rparse_o_off K hK2 n0 u0 s1 n1 u1 t1 l hl hp KB hE HK) (fun h1 h2 HK => rparse_o_ok K hK2 n0 u0 s1 n1 u1 t1 l hl hp HK)
            by_cases c3 : t0 = bs [98]
            · subst c3
              rw [docTail_b rfl] at hd; injection hd with hd; subst hd
              match l, hl, hp, hxo, hxn with
              | [], hl, hp, hxo, hxn => exact rend_any K (docB (bs [98]) ⟨s1, n1, u1, t1⟩ []) hxo (by show ¬ formK (bs [98]) = []; rw [formK_b]; simp) (one_size _) hxn (fun h => absurd h (by show ¬ (0 : Int) < -2147483648; decide)) (fun _ h => absurd h (by show ¬ (2147483647 : Int) < 0; decide)) (fun h1 h2 KB EV hE HK => rparse_bX_err K hK2 n0 u0 s1 n1 u1 t1 [] hl (by simp) hp KB EV hE HK) (fun h1 h2 KB hE HK => rparse_bX_off K hK2 n0 u0 s1 n1 u1 t1 [] hl (by simp) hp KB hE HK) (fun h1 h2 HK => rparse_bX_ok K hK2 n0 u0 s1 n1 u1 t1 [] hl (by simp) hp HK)
              | [p2], hl, hp, hxo, hxn => exact rend_any K (docB (bs [98]) ⟨s1, n1, u1, t1⟩ [p2]) hxo (by show ¬ formK (bs [98]) = []; rw [formK_b]; simp) (one_size _) hxn (fun h => absurd h (by show ¬ (0 : Int) < -2147483648; decide)) (fun _ h => absurd h (by show ¬ (2147483647 : Int) < 0; decide)) (fun h1 h2 KB EV hE HK => rparse_bX_err K hK2 n0 u0 s1 n1 u1 t1 [p2] hl (by simp) hp KB EV hE HK) (fun h1 h2 KB hE HK => rparse_bX_off K hK2 n0 u0 s1 n1 u1 t1 [p2] hl (by simp) hp KB hE HK) (fun h1 h2 HK => rparse_bX_ok K hK2 n0 u0 s1 n1 u1 t1 [p2] hl (by simp) hp HK)
              | [p2, p3], hl, hp, hxo, hxn => exact rend_any K (docB (bs [98]) ⟨s1, n1, u1, t1⟩ [p2, p3]) hxo (by show ¬ formK (bs [98]) = []; rw [formK_b]; simp) (one_size _) hxn (fun h => absurd h (by show ¬ (0 : Int) < -2147483648; decide)) (fun _ h => absurd h (by show ¬ (2147483647 : Int) < 0; decide)) (fun h1 h2 KB EV hE HK => rparse_bX_err K hK2 n0 u0 s1 n1 u1 t1 [p2, p3] hl (by simp) hp KB EV hE HK) (fun h1 h2 KB hE HK => rparse_bX_off K hK2 n0 u0 s1 n1 u1 t1 [p2, p3] hl (by simp) hp KB hE HK) (fun h1 h2 HK => rparse_bX_ok K hK2 n0 u0 s1 n1 u1 t1 [p2, p3] hl (by simp) hp HK)
              | [⟨s2, n2, u2, t2⟩, ⟨s3, n3, u3, t3⟩, ⟨s4, n4, u4, t4⟩], hl, hp, hxo, hxn => exact rend_any K (docB (bs [98]) ⟨s1, n1, u1, t1⟩ [⟨s2, n2, u2, t2⟩, ⟨s3, n3, u3, t3⟩, ⟨s4, n4, u4, t4⟩]) hxo (by show ¬ formK (bs [98]) = []; rw [formK_b]; simp) (one_size _) hxn (fun h1 => rparse_b5_lo K hK2 n0 u0 s1 n1 u1 t1 s2 n2 u2 t2 s3 n3 u3 t3 s4 n4 u4 t4  hp h1) (fun h1 h2 => rparse_b5_hi K hK2 n0 u0 s1 n1 u1 t1 s2 n2 u2 t2 s3 n3 u3 t3 s4 n4 u4 t4  hp h1 h2) (fun h1 h2 KB EV hE HK => rparse_b5_err K hK2 n0 u0 s1 n1 u1 t1 s2 n2 u2 t2 s3 n3 u3 t3 s4 n4 u4 t4  hp h1 h2 KB EV hE HK) (fun h1 h2 KB hE HK => rparse_b5_off K hK2 n0 u0 s1 n1 u1 t1 s2 n2 u2 t2 s3 n3 u3 t3 s4 n4 u4 t4  hp h1 h2 KB hE HK) (fun h1 h2 HK => rparse_b5_ok K hK2 n0 u0 s1 n1 u1 t1 s2 n2 u2 t2 s3 n3 u3 t3 s4 n4 u4 t4  hp h1 h2 HK)
              | p2 :: p3 :: p4 :: p5 :: l, hl, hp, hxo, hxn => exact rend_any K (docB (bs [98]) ⟨s1, n1, u1, t1⟩ (p2 :: p3 :: p4 :: p5 :: l)) hxo (by show ¬ formK (bs [98]) = []; rw [formK_b]; simp) (one_size _) hxn (fun h => absurd h (by show ¬ (0 : Int) < -2147483648; decide)) (fun _ h => absurd h (by show ¬ (2147483647 : Int) < 0; decide)) (fun h1 h2 KB EV hE HK => rparse_bX_err K hK2 n0 u0 s1 n1 u1 t1 (p2 :: p3 :: p4 :: p5 :: l) hl (by simp) hp KB EV hE HK) (fun h1 h2 KB hE HK => rparse_bX_off K hK2 n0 u0 s1 n1 u1 t1 (p2 :: p3 :: p4 :: p5 :: l) hl (by simp) hp KB hE HK) (fun h1 h2 HK => rparse_bX_ok K hK2 n0 u0 s1 n1 u1 t1 (p2 :: p3 :: p4 :: p5 :: l) hl (by simp) hp HK)
            by_cases c4 : t0 = bs [101]
            · subst c4
              rw [docTail_e rfl] at hd; injection hd with hd; subst hd
              match l, hl, hp, hxo, hxn with
              | [], hl, hp, hxo, hxn => exact rend_any K (docE (bs [101]) ⟨s1, n1, u1, t1⟩ []) hxo (by show ¬ formK (bs [101]) = []; rw [formK_e]; simp) (one_size _) hxn (fun h => absurd h (by show ¬ (0 : Int) < -2147483648; decide)) (fun _ h => absurd h (by show ¬ (2147483647 : Int) < 0; decide)) (fun h1 h2 KB EV hE HK => rparse_eX_err K hK2 n0 u0 s1 n1 u1 t1 [] hl (by simp) hp KB EV hE HK) (fun h1 h2 KB hE HK => rparse_eX_off K hK2 n0 u0 s1 n1 u1 t1 [] hl (by simp) hp KB hE HK) (fun h1 h2 HK => rparse_eX_ok K hK2 n0 u0 s1 n1 u1 t1 [] hl (by simp) hp HK)
              | [⟨s2, n2, u2, t2⟩], hl, hp, hxo, hxn => exact rend_any K (docE (bs [101]) ⟨s1, n1, u1, t1⟩ [⟨s2, n2, u2, t2⟩]) hxo (by show ¬ formK (bs [101]) = []; rw [formK_e]; simp) (one_size _) hxn (fun h => absurd h (by show ¬ (0 : Int) < -2147483648; decide)) (fun _ h => absurd h (by show ¬ (2147483647 : Int) < 0; decide)) (fun h1 h2 KB EV hE HK => rparse_e3_err K hK2 n0 u0 s1 n1 u1 t1 s2 n2 u2 t2  hp KB EV hE HK) (fun h1 h2 KB hE HK => rparse_e3_off K hK2 n0 u0 s1 n1 u1 t1 s2 n2 u2 t2  hp KB hE HK) (fun h1 h2 HK => rparse_e3_ok K hK2 n0 u0 s1 n1 u1 t1 s2 n2 u2 t2  hp HK)
              | p2 :: p3 :: l, hl, hp, hxo, hxn => exact rend_any K (docE (bs [101]) ⟨s1, n1, u1, t1⟩ (p2 :: p3 :: l)) hxo (by show ¬ formK (bs [101]) = []; rw [formK_e]; simp) (one_size _) hxn (fun h => absurd h (by show ¬ (0 : Int) < -2147483648; decide)) (fun _ h => absurd h (by show ¬ (2147483647 : Int) < 0; decide)) (fun h1 h2 KB EV hE HK => rparse_eX_err K hK2 n0 u0 s1 n1 u1 t1 (p2 :: p3 :: l) hl (by simp) hp KB EV hE HK) (fun h1 h2 KB hE HK => rparse_eX_off K hK2 n0 u0 s1 n1 u1 t1 (p2 :: p3 :: l) hl (by simp) hp KB hE HK) (fun h1 h2 HK => rparse_eX_ok K hK2 n0 u0 s1 n1 u1 t1 (p2 :: p3 :: l) hl (by simp) hp HK)
            by_cases c5 : t0 = bs [110]
            · subst c5
              rw [docTail_n rfl] at hd; injection hd with hd; subst hd
              exact rend_any K _ hxo (by show ¬ formK (bs [110]) = []; rw [formK_n]; simp) (one_size _) hxn (fun h => absurd h (by show ¬ (0 : Int) < -2147483648; decide)) (fun _ h => absurd h (by show ¬ (2147483647 : Int) < 0; decide)) (fun h1 h2 KB EV hE HK => rparse_n_err K hK2 n0 u0 s1 n1 u1 t1 l hl hp KB EV hE HK) (fun h1 h2 KB hE HK => rparse_n_off K hK2 n0 u0 s1 n1 u1 t1 l hl hp KB hE HK) (fun h1 h2 HK => rparse_n_ok K hK2 n0 u0 s1 n1 u1 t1 l hl hp HK)
            rw [docTail_no c1 c2 c3 c4 c5] at hd; cases hd
          · rw [docRow_x hs] at hd; cases hd
end Go.Proofs.YtelbhegkaihjhaaDoor
