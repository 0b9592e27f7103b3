/-
  The law MemoPlays: what its last answers come to. Conditions: as each theorem states.
-/
import Derived.Test.YtadejeoiffaimaaGreatDoorMeYb
namespace Go.Proofs.YtadejeoiffaimaaGreatDoor.Me
open Go.RowKit Go.Shelf
open Vi
open Go.Proofs.YtadejeoiffaimaaGreatDoor.Sk (feet Lst Moves Only NRow)

/-- a row of entries beside a memo -/
def KM (W : World) (b l : Nat) (v rv : Value) (q : List En) : Prop := EAt W rv q ∧ ∀ g, rv.ownBlock = some g → g ∉ mfeet b l v ∧ g < W.heap.size
theorem km_at {W : World} {b l : Nat} {v rv : Value} {q : List En} (h : KM W b l v rv q) : EAt W rv q := h.1
theorem km_bel {W W' : World} {b l : Nat} {v rv : Value} {q : List En} (h : KM W b l v rv q) (hb : Below W.heap.size W W') : KM W' b l v rv q := ⟨h.1.below hb, fun g hg => ⟨(h.2 g hg).1, Nat.lt_of_lt_of_le (h.2 g hg).2 hb.size⟩⟩
theorem km_moved {W W' : World} {b l : Nat} {v rv : Value} {q : List En} (h : KM W b l v rv q) (hM : Moves W (mfeet b l v) W' (mfeet b l v)) : KM W' b l v rv q :=
  ⟨h.1.kept (fun g hg => hM.only.block g (h.2 g hg).2 (h.2 g hg).1) hM.only.size, fun g hg => ⟨(h.2 g hg).1, Nat.lt_of_lt_of_le (h.2 g hg).2 hM.only.size⟩⟩
theorem km_row {w W : World} {b l n : Nat} {v qv : Value} {E : List En} {m : Int} (T : PSM w b l v E n m qv W) : KM W b l v qv E := ⟨T.row, T.off⟩
theorem eat_cut {W : World} {A : Option Addr} {c N : Nat} {q : List En} (h : EAt W (.slice A q.length c) q) (hN : N ≤ q.length) : EAt W (.slice A N c) (q.take N) := by
  obtain ⟨A', c', e, hcap, hc⟩ := h
  injection e with e1 e2 e3
  subst e1 e3
  have hl : (q.take N).length = N := by rw [List.length_take]; omega
  refine ⟨A, c, by rw [hl], by omega, fun h0 => ?_⟩
  obtain ⟨g, hA, hg, hx⟩ := hc (by omega)
  refine ⟨g, hA, hg, fun j x hj => hx j x ?_⟩
  have he : eRow q = eRow (q.take N) ++ eRow (q.drop N) := by unfold eRow; rw [← List.flatMap_append, List.take_append_drop]
  rw [he, List.getElem?_append_left (by
    rcases Nat.lt_or_ge j (eRow (q.take N)).length with h | h
    · exact h
    · rw [List.getElem?_eq_none h] at hj; cases hj)]
  exact hj
theorem cut_at {W : World} {A0 : Option Addr} {c0 N mt : Nat} {q : List En} (h : EAt W (.slice A0 q.length c0) q) (hN : (N : Int) = min (mt : Int) (q.length : Int)) : EAt W (.slice A0 N c0) (q.take mt) := by
  have h2 := eat_cut (N := N) h (by omega)
  have e : q.take N = q.take mt := by
    rcases Nat.le_total mt q.length with hle | hle
    · rw [show N = mt by omega]
    · rw [List.take_of_length_le (by omega), List.take_of_length_le hle]
  rw [e] at h2; exact h2
def CapT (W : World) (gf l : Nat) (v : Value) (kk : ByteArray) (bl : Nat) : Prop := ACap W gf bl (some ⟨l, 0, none⟩) kk ∧ ∀ j ∈ feet l v, j < bl
def CapP (W : World) (gf l : Nat) (v : Value) (kk : ByteArray) (r : Ending) (w' : World) : Prop :=
  ∃ bl, r = .returned (.func (.func 53) #[] #[.pointer (some ⟨bl + 2, 0, none⟩)]) ∧ CapT w' gf l v kk bl ∧ Below W.heap.size W w'
section
variable {w W : World} {b l n : Nat} {v qv : Value} {E : List En} {m : Int}
theorem cap_of (T : PSM w b l v E n m qv W) {gf : Nat} {kk : ByteArray} {r : Ending} {w' : World} (h : FromPost W gf (some ⟨l, 0, none⟩) kk r w') : CapP W gf l v kk r w' := by
  obtain ⟨bl, rfl, hbl, hc, hb⟩ := h
  exact ⟨bl, rfl, ⟨hc, fun j hj => by have := T.mem.lst.lt j hj; omega⟩, hb⟩
theorem all_t (T : PSM w b l v E n m qv W) : Calls Tryz.prog 20 #[.pointer (some ⟨b, 0, none⟩)] W (CapP W 63 l v (plc (least ⟨#[]⟩ 18446744073709551615))) :=
  (mAll_any T.mem).mono fun r w' h => cap_of T h
theorem from_t (T : PSM w b l v E n m qv W) (key : ByteArray) (hk : key.size ≤ 1000000) : Calls Tryz.prog 21 #[.pointer (some ⟨b, 0, none⟩), .string key] W (CapP W 63 l v (plc (least key 18446744073709551615))) :=
  (mFrom_any T.mem key hk).mono fun r w' h => cap_of T h
theorem down_t (T : PSM w b l v E n m qv W) (key : ByteArray) (hk : key.size ≤ 1000000) : Calls Tryz.prog 22 #[.pointer (some ⟨b, 0, none⟩), .string key] W (CapP W 55 l v (downKey key)) :=
  (mDown_any T.mem key hk).mono fun r w' h => cap_of T h
def RowT (w : World) (b l : Nat) (v : Value) (E : List En) (n : Nat) (m : Int) (qv : Value) (W : World) (L : List En) (r : Ending) (w' : World) : Prop :=
  ∃ A c, r = .returned (.slice A L.length c) ∧ KM w' b l v (.slice A L.length c) L ∧ PSM w b l v E n m qv w' ∧ Moves W (mfeet b l v) w' (mfeet b l v)
theorem row_t (T : PSM w b l v E n m qv W) {gf bl : Nat} {kk : ByteArray} (hc : CapT W gf l v kk bl) {L L' : List En} (hg : Gives gf kk E L) (hn : n ≤ 900) (mx : Nat) (hmx : mx ≤ 9223372036854775807) {mi : Int} (hmi : mi = (mx : Nat)) (hL : L.take mx = L') :
    Calls Tryz.prog 19 #[.func (.func 53) #[] #[.pointer (some ⟨bl + 2, 0, none⟩)], .int .i64 mi] W (RowT w b l v E n m qv W L') := by
  subst hL
  have hl := T.len
  refine (row8_any T.mem hc.1 hg hc.2 (by have := (gives_len hg).1; omega) mx hmx hmi).mono ?_
  rintro r w' ⟨vv, rfl, ho, hm, hO⟩
  have he := eat_of_owns ho
  obtain ⟨A, c, rfl⟩ := row_len he
  exact ⟨A, c, rfl, ⟨he, fun g hg => ⟨fun hn => by have := T.mem.lt g hn; have := (ho.lt g hg).1; omega, (ho.lt g hg).2⟩⟩, T.moved hm (moves_get hO) T.row T.off, moves_get hO⟩
theorem rfrom_t (T : PSM w b l v E n m qv W) (key : ByteArray) (hn : n ≤ 900) : Calls Tryz.prog 16 #[qv, .string key] W fun r w' => (∃ A c, r = .returned (.slice A (fromE E key).length c) ∧ KM w' b l v (.slice A (fromE E key).length c) (fromE E key) ∧ (fromE E key).length ≤ c) ∧ Below W.heap.size W w' := by
  have hl := T.len
  refine (rfrom_e T.row key (by omega)).mono ?_
  rintro r w' ⟨vv, rfl, ho, hb⟩
  have he := eat_of_owns ho
  obtain ⟨A, c, rfl⟩ := row_len he
  obtain ⟨A', c', e, hcap, _⟩ := he
  injection e with _ _ e3
  exact ⟨⟨A, c, rfl, ⟨eat_of_owns ho, fun g hg => ⟨fun hn => by have := T.mem.lt g hn; have := (ho.lt g hg).1; omega, (ho.lt g hg).2⟩⟩, by omega⟩, hb⟩
theorem rdown_t (T : PSM w b l v E n m qv W) (key : ByteArray) (hn : n ≤ 900) : Calls Tryz.prog 17 #[qv, .string key] W fun r w' => (∃ A c, r = .returned (.slice A (downE E key).length c) ∧ KM w' b l v (.slice A (downE E key).length c) (downE E key) ∧ (downE E key).length ≤ c) ∧ Below W.heap.size W w' := by
  have hl := T.len
  refine (rdown_e T.row key (by omega)).mono ?_
  rintro r w' ⟨vv, rfl, ho, hb⟩
  have he := eat_of_owns ho
  obtain ⟨A, c, rfl⟩ := row_len he
  obtain ⟨A', c', e, hcap, _⟩ := he
  injection e with _ _ e3
  exact ⟨⟨A, c, rfl, ⟨eat_of_owns ho, fun g hg => ⟨fun hn => by have := T.mem.lt g hn; have := (ho.lt g hg).1; omega, (ho.lt g hg).2⟩⟩, by omega⟩, hb⟩
end
end Go.Proofs.YtadejeoiffaimaaGreatDoor.Me
