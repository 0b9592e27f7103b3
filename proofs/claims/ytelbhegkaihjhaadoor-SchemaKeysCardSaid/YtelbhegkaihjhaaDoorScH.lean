/-
  The document's keys of a market, walked: a thing's key. Conditions: as each theorem states.
-/
import Derived.Test.YtelbhegkaihjhaaDoorScG
namespace Go.Proofs.YtelbhegkaihjhaaDoor
open Go.RowKit
open Vi

theorem rrow_any {w : World} (x : Th) (hx : ¬ formK x.sort = []) : Calls Tryd.prog 21 #[x.val] w (RwPost w (rowK x)) := by
  obtain ⟨s, a, i, k, p, r, t, n⟩ := x
  by_cases c1 : s = ⟨#[97]⟩
  · subst c1; rw [rowK_at (show formK _ = _ from formK_a)]
    exact rrow_a a i k p r t n
  by_cases c2 : s = ⟨#[111]⟩
  · subst c2; rw [rowK_at (show formK _ = _ from formK_o)]
    exact rrow_o a i k p r t n
  by_cases c3 : s = ⟨#[98]⟩
  · subst c3; rw [rowK_at (show formK _ = _ from formK_b)]
    by_cases hk : k = 1
    · subst hk; exact rrow_b_buy a i p r t n
    · have e : ([107, 112, 114, 105] : List UInt8).map (partK · ⟨⟨#[98]⟩, a, i, k, p, r, t, n⟩) = [kUp k, kUp p, kCount r, kCount i] := by
        simp only [List.map_cons, List.map_nil, partK_k, partK_p, partK_r, partK_i, if_neg hk]
      rw [e]
      exact rrow_b_sell a i k p r t n (by simpa using hk)
  by_cases c4 : s = ⟨#[101]⟩
  · subst c4; rw [rowK_at (show formK _ = _ from formK_e)]
    exact rrow_e a i k p r t n
  by_cases c5 : s = ⟨#[110]⟩
  · subst c5; rw [rowK_at (show formK _ = _ from formK_n)]
    exact rrow_n a i k p r t n
  exact absurd (formK_none c1 c2 c3 c4 c5) hx
theorem rowK_len (x : Th) : (rowK x).length ≤ 5 := by have := formK_len x.sort; unfold rowK; simp; omega
theorem rowK_small {t : Th} (hs : t.sort.size ≤ 1000) (hn : t.name.size ≤ 1000) : ∀ p ∈ rowK t, p.s.size ≤ 1000 := by
  have z : (⟨#[]⟩ : ByteArray).size ≤ 1000 := by decide
  have each : ∀ c, (partK c t).s.size ≤ 1000 := fun c => by
    unfold partK
    split
    · exact z
    split
    · exact z
    split
    · split <;> exact z
    split
    · exact z
    split
    · exact z
    split
    · exact z
    · exact hn
  intro p hp
  rcases List.mem_cons.1 hp with rfl | hp
  · exact hs
  · obtain ⟨c, _, rfl⟩ := List.mem_map.1 hp; exact each c
theorem rmake_row {w : World} (v : Value) (B : Nat) (l : List KPart) (hl : l.length ≤ 5) (ho : w.ownsRow B 46 4 v l.length (l.flatMap KPart.cells)) (hok : ∀ p ∈ l, p.ok ∧ p.s.size ≤ 1000) :
    Calls Tryd.prog 18 #[v] w fun e w' => e = .returned (.tuple #[.string (bs (mkGo [] l).1), .int .i64 (mkGo [] l).2]) ∧ Below w.heap.size w w' := by
  obtain ⟨A, c, rfl, hp⟩ := rprow_of_owns ho
  exact rmake_any A c l (by omega) hp hok
set_option maxRecDepth 100000 in
theorem rkey_any {w : World} (x : Th) (hx : x.ok) (hf : ¬ formK x.sort = []) (hs : x.sort.size ≤ 1000) (hn : x.name.size ≤ 1000) :
    Calls Tryd.prog 8 #[x.val] w fun e w' => e = .returned (.tuple #[.string (bs (keyB x)), .int .i64 (keyE x)]) ∧ Below w.heap.size w w' := by
  have RW := Lib.hid fun (W : World) => rrow_any (w := W) x hf
  have MK := Lib.hid fun (W : World) (B : Nat) (v : Value) (h : W.ownsRow B 46 4 v (rowK x).length ((rowK x).flatMap KPart.cells)) => rmake_row v B (rowK x) (rowK_len x) h (fun p hp => ⟨rowK_ok hx p hp, rowK_small hs hn p hp⟩)
  unfold keyB keyE
  generalize rowK x = L at RW MK ⊢
  clear hx hf hs hn
  obtain ⟨s, a, i, k, p, r, t, n⟩ := x
  replace RW : Hid (∀ W : World, Calls Tryd.prog 21 #[.agg #[.string s, .int .u64 a, .int .u64 i, .int .i64 k, .int .i64 p, .int .u64 r, .int .u64 t, .string n]] W (RwPost W L)) := RW
  show Calls Tryd.prog 8 #[.agg #[.string s, .int .u64 a, .int .u64 i, .int .i64 k, .int .i64 p, .int .u64 r, .int .u64 t, .string n]] w _
  go_enter Tryd.func8, Tryd.ntmps8
  go_wp2_with (first
    | (go_at_call 21; (with_reducible refine (RW.out _).mono ?_); rintro e w1 ⟨⟨v, rfl, own⟩, b1⟩; have O1 := Lib.hid own; have B1 := Lib.hid (alloc_below b1); clear own b1)
    | (go_at_call 18; (with_reducible refine (MK.out _ _ _ O1.out).mono ?_); rintro e w2 ⟨rfl, b2⟩))
  go_ret2
  exact ⟨rfl, B1.out.trans (b2.mono B1.out.size)⟩
set_option maxRecDepth 100000 in
theorem want_any {w : World} (x : Th) (hx : x.ok) (hf : ¬ formK x.sort = []) (hs : x.sort.size ≤ 1000) (hn : x.name.size ≤ 1000) :
    Calls Tryd.prog 7 #[x.val] w fun e w' => e = .returned (.string (bs (keyB x))) ∧ Below w.heap.size w w' := by
  have RK := Lib.hid fun (W : World) => rkey_any (w := W) x hx hf hs hn
  clear hx hf hs hn
  generalize keyB x = K at RK ⊢
  generalize keyE x = E at RK
  obtain ⟨s, a, i, k, p, r, t, n⟩ := x
  replace RK : Hid (∀ W : World, Calls Tryd.prog 8 #[.agg #[.string s, .int .u64 a, .int .u64 i, .int .i64 k, .int .i64 p, .int .u64 r, .int .u64 t, .string n]] W fun e w' => e = .returned (.tuple #[.string (bs K), .int .i64 E]) ∧ Below W.heap.size W w') := RK
  show Calls Tryd.prog 7 #[.agg #[.string s, .int .u64 a, .int .u64 i, .int .i64 k, .int .i64 p, .int .u64 r, .int .u64 t, .string n]] w _
  go_enter Tryd.func7, Tryd.ntmps7
  go_wp2_with (go_at_call 8; (with_reducible refine (RK.out _).mono ?_); rintro e w1 ⟨rfl, b1⟩)
  go_ret
  exact ⟨rfl, alloc_below b1⟩
end Go.Proofs.YtelbhegkaihjhaaDoor
