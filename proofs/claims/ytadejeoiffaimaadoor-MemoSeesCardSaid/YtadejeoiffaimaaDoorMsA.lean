/-
  A map of texts to entries, as it lies in memory; a range over it. Conditions: as each theorem states.
-/
import Derived.Test.YtadejeoiffaimaaDoorMeG
import Derived.Maps.OwnSet
import Derived.Maps.OwnOps
import Derived.Maps.Keyed
import Derived.Maps.RangeWalk
namespace Go.Proofs.YtadejeoiffaimaaDoor.Me
open Go.RowKit Go.Maps

theorem keyS : Maps.Keyed Tryd.prog 9 := Maps.string_keyed Tryd.underlying9
theorem keyOfS {s : ByteArray} (h : s.size ≤ maxLen) : keyOf Tryd.prog 9 (.string s) = some (.string s.data.toList) := WideMaps.keyOf_string_mk Tryd.underlying9 h
theorem keyOfS_inv {key : Value} {kl : Lit} (h : keyOf Tryd.prog 9 key = some kl) : ∃ s : ByteArray, key = .string s ∧ kl = .string s.data.toList := by
  have hu : Tryd.prog.underlying 9 = some .string := Tryd.underlying9
  cases key <;> simp [keyOf, hu, mapKey] at h
  exact ⟨_, rfl, h.2.symm⟩
def entD (e : En) : DataW Unit := .agg [.lit (.string e.key.data.toList), .lit (.int .u64 e.seq), .lit (.int .i64 e.kind), .lit (.string e.val.data.toList)]
def entV (e : En) : Value := .agg #[.string e.key, .int .u64 e.seq, .int .i64 e.kind, .string e.val]
theorem entV_inj {a b : En} (h : entV a = entV b) : a = b := by
  unfold entV at h
  injection h with h
  injection h with h
  simp only [List.cons.injEq, Value.string.injEq, Value.int.injEq, true_and, and_true] at h
  obtain ⟨h1, h2, h3, h4⟩ := h
  cases a; cases b
  simp only at h1 h2 h3 h4
  simp only [En.mk.injEq]
  exact ⟨h1, by omega, h3, h4⟩
open Classical in
noncomputable def entR (v : Value) : Option (DataW Unit × List MemPlace) :=
  if h : ∃ e : En, v = entV e then some (entD h.choose, []) else none
theorem entR_mk (e : En) : entR (.agg #[.string e.key, .int .u64 e.seq, .int .i64 e.kind, .string e.val]) = some (entD e, []) := by
  have h : ∃ e' : En, (Value.agg #[.string e.key, .int .u64 e.seq, .int .i64 e.kind, .string e.val]) = entV e' := ⟨e, rfl⟩
  unfold entR
  rw [dif_pos h]
  have h2 : e = h.choose := entV_inj h.choose_spec
  rw [← h2]
theorem entR_inv {v : Value} {y : DataW Unit × List MemPlace} (h : entR v = some y) : ∃ e : En, v = .agg #[.string e.key, .int .u64 e.seq, .int .i64 e.kind, .string e.val] ∧ y = (entD e, []) := by
  unfold entR at h
  split at h
  · rename_i hx
    exact ⟨hx.choose, hx.choose_spec, (Option.some.inj h).symm⟩
  · cases h
theorem entD_inj {a b : En} (h : entD a = entD b) : a = b := by
  unfold entD at h
  injection h with h
  simp only [List.cons.injEq, DataW.lit.injEq, Lit.string.injEq, Lit.int.injEq, true_and, and_true] at h
  obtain ⟨h1, h2, h3, h4⟩ := h
  obtain ⟨ak, an, ad, av⟩ := a
  obtain ⟨bk, bn, bd, bv⟩ := b
  simp only at h1 h2 h3 h4
  rw [data_inj h1, data_inj h4, h3, show an = bn by omega]
/-- what a map of entries reads as -/
def MapOf (D : DataW Unit) (mp : ByteArray → Option En) : Prop :=
  Maps.IsMap D ∧ ∀ k : ByteArray, Maps.has D (.string k.data.toList) = (mp k).isSome ∧ ∀ e, mp k = some e → ∀ zd, D.atKey (.string k.data.toList) zd = entD e
def EMap (w : World) (m n : Nat) (mp : ByteArray → Option En) : Prop := ∃ D : DataW Unit, w.ownsMap Tryd.prog 9 entR m n D ∧ MapOf D mp
theorem emap_kept {w w' : World} {m n : Nat} {mp : ByteArray → Option En} (h : EMap w m n mp) (hk : w'.heap[m]? = w.heap[m]?) : EMap w' m n mp := by
  obtain ⟨D, ⟨es, clock, hb, F, hs, hD⟩, h2⟩ := h
  exact ⟨D, ⟨es, clock, hk.trans hb, F, hs, hD⟩, h2⟩
theorem emap_lt {w : World} {m n : Nat} {mp : ByteArray → Option En} (h : EMap w m n mp) : m < w.heap.size := by
  obtain ⟨D, ho, _⟩ := h
  exact ho.lt
set_option maxRecDepth 100000 in
theorem emap_put {w : World} {m n : Nat} {mp : ByteArray → Option En} (h : EMap w m n mp) (hn : n < maxLen) {s : ByteArray} (hs : s.size ≤ maxLen) (e : En) :
    ∃ w', (Instr.mapUpdate 28 (.map (some m)) (.string s) (.agg #[.string e.key, .int .u64 e.seq, .int .i64 e.kind, .string e.val])).run Tryd.prog w = .ok () w' ∧ EMap w' m (n + 1) (fun k => if k = s then some e else mp k) ∧ w.grownBy w' (some m) := by
  obtain ⟨D, ho, hD, h3⟩ := h
  obtain ⟨w', hrun, ho2, hg⟩ := ho.update keyS Tryd.underlying28 hn (keyOfS hs) (val := .agg #[.string e.key, .int .u64 e.seq, .int .i64 e.kind, .string e.val]) (d := entD e) (ps := []) (entR_mk e)
  refine ⟨w', hrun, ⟨_, ho2, ?_, fun k => ?_⟩, hg⟩
  · obtain ⟨es, rfl⟩ := hD
    exact ⟨_, rfl⟩
  · show Maps.has _ _ = (if k = s then some e else mp k).isSome ∧ ∀ e', (if k = s then some e else mp k) = some e' → _
    by_cases hk : k = s
    · subst hk
      rw [if_pos rfl]
      exact ⟨Maps.has_put_same hD (show WideAt.IsKeyLit (.string _) from trivial) _, fun e' he zd => by cases he; exact Maps.atKey_put_same hD (show WideAt.IsKeyLit (.string _) from trivial) _ _⟩
    · have hne : Lit.string k.data.toList ≠ Lit.string s.data.toList := fun e => hk (by
        injection e with e
        exact data_inj e)
      rw [if_neg hk]
      exact ⟨(Maps.has_put_other hne _).trans (h3 k).1, fun e' he zd => (Maps.atKey_put_other hne _ _).trans ((h3 k).2 e' he zd)⟩
theorem emap_new (w : World) : EMap (w.alloc (.map #[] 0)) w.heap.size 0 (fun _ => none) :=
  ⟨.map [], World.ownsMap_made w _ _ _, ⟨[], rfl⟩, fun k => ⟨by simp [Maps.has_eq], fun e he => by cases he⟩⟩
/-- a range over it, under way -/
def ERan (w : World) (m r n : Nat) (mp : ByteArray → Option En) (cnt : Nat) : Prop :=
  ∃ (D : DataW Unit) (left : Lit → Bool), w.ranges Tryd.prog 9 entR m r n D left cnt ∧ MapOf D mp ∧ ∀ kl, left kl = true → Maps.has D kl = true
theorem eran_left {w : World} {m r n cnt : Nat} {mp : ByteArray → Option En} (h : ERan w m r n mp cnt) : w.rangeLeft m r = cnt := by
  obtain ⟨D, left, h1, _⟩ := h
  exact h1.left_eq
theorem eran_kept {w w' : World} {m r n cnt : Nat} {mp : ByteArray → Option En} (h : ERan w m r n mp cnt) (hm : w'.heap[m]? = w.heap[m]?) (hr : w'.heap[r]? = w.heap[r]?) : ERan w' m r n mp cnt := by
  obtain ⟨D, left, ⟨es, clock, since, seen, c0, hb, F, hs, hD, hri, x1, x2, x3, x4, x5, x6⟩, h2, h3⟩ := h
  exact ⟨D, left, ⟨es, clock, since, seen, c0, hm.trans hb, F, hs, hD, hr.trans hri, x1, x2, x3, x4, x5, x6⟩, h2, h3⟩
section
variable {w : World} {ops : Array Oper} {rest : List Oper} {o : Oper} {a : Act} {Q : Exit → Act → World → Prop}
theorem range_em (hg : o.guard = none) (x : Operand) (hop : o.op = Op.range 28 x) {m n : Nat} {mp : ByteArray → Option En} (hx : a.eval x = .map (some m)) (h : EMap w m n mp)
    (hK : ∀ w' cnt, ERan w' m w.heap.size n mp cnt → w.grownBy w' none → w'.heap.size = w.heap.size + 1 → wpList Tryd.prog ops Q rest (a.put o.dst (.pointer (some ⟨w.heap.size, 0, none⟩))) w') :
    wpList Tryd.prog ops Q (o :: rest) a w := by
  obtain ⟨D, ho, hD⟩ := h
  exact wpList_range_own w hg x 28 hop 9 30 keyS Tryd.underlying28 entR m n D hx ho (fun w' h1 h2 h3 => hK w' _ ⟨D, _, h1, hD, fun _ h => h⟩ h2 h3)
theorem next_em (hg : o.guard = none) (it : Operand) (hop : o.op = Op.next it false) {m r n cnt : Nat} {mp : ByteArray → Option En} (hit : a.eval it = .pointer (some ⟨r, 0, none⟩)) (h : ERan w m r n mp cnt)
    (hDone : cnt = 0 → wpList Tryd.prog ops Q rest (a.put o.dst (.tuple #[.bool false])) w)
    (hMore : ∀ (s : ByteArray) (e : En) (w' : World) (cnt' : Nat), mp s = some e → ERan w' m r n mp cnt' → cnt' < cnt → w.grownBy w' (some r) → w'.heap.size = w.heap.size →
      (Instr.entry (.pointer (some ⟨r, 0, none⟩))).run Tryd.prog w' = .ok (.tuple #[.string s, .agg #[.string e.key, .int .u64 e.seq, .int .i64 e.kind, .string e.val]]) w' →
      wpList Tryd.prog ops Q rest (a.put o.dst (.tuple #[.bool true, .string s, .agg #[.string e.key, .int .u64 e.seq, .int .i64 e.kind, .string e.val]])) w') :
    wpList Tryd.prog ops Q (o :: rest) a w := by
  obtain ⟨D, left, hr, hD, hl⟩ := h
  refine wpList_next_ranges w hg it hop 9 keyS entR (Value.string) (fun e : En => .agg #[.string e.key, .int .u64 e.seq, .int .i64 e.kind, .string e.val])
    (fun key kl hk => by obtain ⟨s, h, _⟩ := keyOfS_inv hk; exact ⟨s, h⟩) (fun v y hv => by obtain ⟨e, h, _⟩ := entR_inv hv; exact ⟨e, h⟩) m r n D left cnt hit hr (fun h _ => hDone h) ?_
  intro s e kl y w' cnt' hk hlk hv hat hr' hlt hgr hsz hen
  obtain ⟨s', e1, rfl⟩ := keyOfS_inv hk
  cases e1
  obtain ⟨e', e2, rfl⟩ := entR_inv hv
  have hh := hl _ hlk
  rw [(hD.2 s).1] at hh
  obtain ⟨e3, he3⟩ := Option.isSome_iff_exists.1 hh
  have h5 := (hD.2 s).2 e3 he3 (.lit (.bool false))
  rw [hat] at h5
  have h6 := entR_mk e
  rw [hv] at h6
  injection h6 with h6
  injection h6 with h6 _
  have h7 : e = e3 := entD_inj (h6.symm.trans h5)
  subst h7
  exact hMore s e w' cnt' he3 ⟨D, _, hr', hD, fun kl h => hl kl (by simp at h; exact h.1)⟩ hlt hgr hsz hen
end
end Go.Proofs.YtadejeoiffaimaaDoor.Me
