/-
  A map of texts to numbers, as it lies in memory. Conditions: as each theorem states.
-/
import Derived.Test.YtnnjbofkkaonoaaSkV
import Derived.Maps.OwnSet
import Derived.Maps.OwnOps
import Derived.Maps.Keyed
namespace Go.Proofs.Ytnnjbofkkaonoaa.Sk
open Go.RowKit Go.Maps

theorem keyS : Maps.Keyed Try.prog 9 := Maps.string_keyed Try.underlying9
theorem keyOfS {s : ByteArray} (h : s.size ≤ maxLen) : keyOf Try.prog 9 (.string s) = some (.string s.data.toList) := WideMaps.keyOf_string_mk Try.underlying9 h
theorem zeroI (w : World) : (zeroValue 3).run Try.prog w = .ok (.int .i64 0) w := Try.zeroValue3 w
/-- a map of heights -/
def HMap (w : World) (m n : Nat) (mp : ByteArray → Option Nat) : Prop :=
  ∃ D : DataW Unit, w.ownsMap Try.prog 9 (plainElem Try.prog 3) m n D ∧ Maps.IsMap D ∧ ∀ k : ByteArray, Maps.has D (.string k.data.toList) = (mp k).isSome ∧ D.atKey (.string k.data.toList) (.lit (.int .i64 0)) = .lit (.int .i64 (((mp k).getD 0 : Nat) : Int))
theorem hmap_kept {w w' : World} {m n : Nat} {mp : ByteArray → Option Nat} (h : HMap w m n mp) (hk : w'.heap[m]? = w.heap[m]?) : HMap w' m n mp := by
  obtain ⟨D, ⟨es, clock, hb, F, hs, hD⟩, h2, h3⟩ := h
  exact ⟨D, ⟨es, clock, hk.trans hb, F, hs, hD⟩, h2, h3⟩
theorem hmap_lt {w : World} {m n : Nat} {mp : ByteArray → Option Nat} (h : HMap w m n mp) : m < w.heap.size := by
  obtain ⟨D, ho, _⟩ := h
  exact ho.lt
theorem hmap_look {w : World} {m n : Nat} {mp : ByteArray → Option Nat} (h : HMap w m n mp) {s : ByteArray} (hs : s.size ≤ maxLen) :
    (Instr.lookup 28 (.map (some m)) (.string s) false).run Try.prog w = .ok (.int .i64 (((mp s).getD 0 : Nat) : Int)) w := by
  obtain ⟨D, ho, _, h3⟩ := h
  obtain ⟨c, hrun, hat, _⟩ := ho.lookup_int keyS Try.underlying28 Try.underlying3 (zeroI w) (keyOfS hs)
  rw [(h3 s).2] at hat
  injection hat with hat
  injection hat with _ hat
  rw [hrun, ← hat]
theorem hmap_ok {w : World} {m n : Nat} {mp : ByteArray → Option Nat} (h : HMap w m n mp) {s : ByteArray} (hs : s.size ≤ maxLen) :
    ∃ v, (Instr.lookup 28 (.map (some m)) (.string s) true).run Try.prog w = .ok (.tuple #[v, .bool (mp s).isSome]) w := by
  obtain ⟨D, ho, _, h3⟩ := h
  obtain ⟨v, ps, hrun, _⟩ := ho.look_ok keyS Try.underlying28 (zeroI w) (plainElem_int Try.underlying3 (by decide)) (keyOfS hs)
  rw [(h3 s).1] at hrun
  exact ⟨v, hrun⟩
theorem hmap_put {w : World} {m n : Nat} {mp : ByteArray → Option Nat} (h : HMap w m n mp) (hn : n < maxLen) {s : ByteArray} (hs : s.size ≤ maxLen) {x : Int} {h0 : Nat} (hx : x = (h0 : Int)) (hh : h0 ≤ 12) :
    ∃ w', (Instr.mapUpdate 28 (.map (some m)) (.string s) (.int .i64 x)).run Try.prog w = .ok () w' ∧ HMap w' m (n + 1) (fun k => if k = s then some h0 else mp k) ∧ w.grownBy w' (some m) := by
  subst hx
  obtain ⟨D, ho, hD, h3⟩ := h
  obtain ⟨w', hrun, ho2, hg⟩ := ho.update keyS Try.underlying28 hn (keyOfS hs) (val := .int .i64 (h0 : Int)) (d := .lit (.int .i64 (h0 : Int))) (ps := []) (plainElem_int Try.underlying3 (by simp [Lit.wf, IntKind.min, IntKind.max, IntKind.signed, IntKind.bits]; omega))
  refine ⟨w', hrun, ⟨_, ho2, ?_, fun k => ?_⟩, hg⟩
  · obtain ⟨es, rfl⟩ := hD
    exact ⟨_, rfl⟩
  · show Maps.has _ _ = (if k = s then some h0 else mp k).isSome ∧ DataW.atKey _ _ _ = .lit (.int .i64 (((if k = s then some h0 else mp k).getD 0 : Nat) : Int))
    by_cases hk : k = s
    · subst hk
      rw [if_pos rfl]
      exact ⟨Maps.has_put_same hD (show WideAt.IsKeyLit (.string _) from trivial) _, Maps.atKey_put_same hD (show WideAt.IsKeyLit (.string _) from trivial) _ _⟩
    · have hne : Lit.string k.data.toList ≠ Lit.string s.data.toList := fun e => hk (by
        injection e with e
        exact ba_ext e)
      rw [if_neg hk]
      exact ⟨(Maps.has_put_other hne _).trans (h3 k).1, (Maps.atKey_put_other hne _ _).trans (h3 k).2⟩
theorem hmap_new (w : World) : HMap (w.alloc (.map #[] 0)) w.heap.size 0 (fun _ => none) :=
  ⟨.map [], World.ownsMap_made w _ _ _, ⟨[], rfl⟩, fun k => ⟨by simp [Maps.has_eq], by simp [DataW.atKey]⟩⟩
end Go.Proofs.Ytnnjbofkkaonoaa.Sk
