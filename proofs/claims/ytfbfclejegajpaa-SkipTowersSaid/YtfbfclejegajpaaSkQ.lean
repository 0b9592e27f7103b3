/-
  Two skip lists side by side; the law SkipTowers walked. Conditions: as each theorem states.
-/
import Derived.Test.YtfbfclejegajpaaSkP
namespace Go.Proofs.Ytfbfclejegajpaa.Sk
open Go.RowKit

structure Two (w0 w : World) (a b : Nat) (va vb : Value) (P Q : List Pr) (na nb : Nat) : Prop where
  la : Lst w a va P na
  lb : Lst w b vb Q nb
  ap : ∀ k ∈ feet a va, k ∉ feet b vb
  ga : ∀ k ∈ feet a va, w0.heap.size ≤ k
  gb : ∀ k ∈ feet b vb, w0.heap.size ≤ k
  bel : Below w0.heap.size w0 w
section
variable {w0 w w' : World} {a b : Nat} {va vb va' vb' : Value} {P Q P' Q' : List Pr} {na nb na' nb' : Nat}
theorem Two.left (h : Two w0 w a b va vb P Q na nb) (hl : Lst w' a va' P' na') (hm : Moves w (feet a va) w' (feet a va')) : Two w0 w' a b va' vb P' Q na' nb where
  la := hl
  lb := h.lb.kept (fun k hk => hm.only.block k (h.lb.lt k hk) (fun hka => h.ap k hka hk))
  ap := fun k hk hkb => by
    rcases hm.fresh k hk with h1 | h1
    · exact h.ap k h1 hkb
    · have := h.lb.lt k hkb; omega
  ga := hm.low h.ga h.bel.size
  gb := h.gb
  bel := h.bel.trans (hm.below h.ga h.bel.size)
theorem Two.right (h : Two w0 w a b va vb P Q na nb) (hl : Lst w' b vb' Q' nb') (hm : Moves w (feet b vb) w' (feet b vb')) : Two w0 w' a b va vb' P Q' na nb' where
  la := h.la.kept (fun k hk => hm.only.block k (h.la.lt k hk) (h.ap k hk))
  lb := hl
  ap := fun k hk hkb => by
    rcases hm.fresh k hkb with h1 | h1
    · exact h.ap k hk h1
    · have := h.la.lt k hk; omega
  ga := h.ga
  gb := hm.low h.gb h.bel.size
  bel := h.bel.trans (hm.below h.gb h.bel.size)
theorem Two.on (h : Two w0 w a b va vb P Q na nb) (hb : Below w.heap.size w w') : Two w0 w' a b va vb P Q na nb :=
  ⟨h.la.below hb, h.lb.below hb, h.ap, h.ga, h.gb, h.bel.trans (hb.mono h.bel.size)⟩
end
def puts (l : List Ac) : List Pr := l.foldl (fun P x => putL P x.key x.value) []
theorem puts_snoc {l : List Ac} {j : Nat} (h : j < l.length) : puts (l.take (j + 1)) = putL (puts (l.take j)) l[j].key l[j].value := by
  unfold puts
  rw [List.take_succ_eq_append_getElem h, List.foldl_append]; rfl
def TwRel (w : World) (a b : Nat) (l : List Ac) (i : Value) (wr : World) : Prop :=
  ∃ (j : Nat) (va vb : Value) (na nb : Nat), j ≤ l.length ∧ i = .int .i64 (j : Nat) ∧ na ≤ j ∧ nb ≤ j ∧ Two w wr a b va vb (puts (l.take j)) (puts (l.take j)) na nb
theorem row_below {W W' : World} {base e size n : Nat} {v : Value} {xs : List Value} (h : W.ownsRow base e size v n xs) (hb : Below W.heap.size W W') : W'.ownsRow base e size v n xs := ownsRow_kept h (fun g hg => hb.block g (ownsRow_lt h hg))
theorem row_moves {W W' : World} {base e size n : Nat} {v : Value} {xs : List Value} {fp fp' : List Nat} (h : W.ownsRow base e size v n xs) (hm : Moves W fp W' fp') (hf : ∀ k ∈ fp, k < base) : W'.ownsRow base e size v n xs :=
  ownsRow_kept h (fun g hg => hm.only.block g (ownsRow_lt h hg) (fun e => by have := hf g e; have := own_ge h hg; omega))
/-- a row of pairs, held while the lists move -/
structure Rw (w w' : World) (a b : Nat) (va vb : Value) (v : Value) (q : List Pr) : Prop where
  row : ∃ base, w'.ownsRow base 35 2 v q.length (prRow q) ∧ (∀ k ∈ feet a va, k < base) ∧ ∀ k ∈ feet b vb, k < base
theorem Rw.on {w w' w'' : World} {a b : Nat} {va vb v : Value} {q : List Pr} (h : Rw w w' a b va vb v q) (hb : Below w'.heap.size w' w'') : Rw w w'' a b va vb v q := by
  obtain ⟨base, h1, h2⟩ := h.row
  exact ⟨base, row_below h1 hb, h2⟩
theorem Rw.left {w w' w'' : World} {a b : Nat} {va vb v : Value} {q : List Pr} (h : Rw w w' a b va vb v q) (hm : Moves w' (feet a va) w'' (feet a va)) : Rw w w'' a b va vb v q := by
  obtain ⟨base, h1, h2⟩ := h.row
  exact ⟨base, row_moves h1 hm h2.1, h2⟩
theorem Rw.right {w w' w'' : World} {a b : Nat} {va vb v : Value} {q : List Pr} (h : Rw w w' a b va vb v q) (hm : Moves w' (feet b vb) w'' (feet b vb)) : Rw w w'' a b va vb v q := by
  obtain ⟨base, h1, h2⟩ := h.row
  exact ⟨base, row_moves h1 hm h2.2, h2⟩
theorem Rw.of {w W w' : World} {a b : Nat} {va vb v : Value} {P Q q : List Pr} {na nb : Nat} (T : Two w W a b va vb P Q na nb) (hr : w'.ownsRow W.heap.size 35 2 v q.length (prRow q)) : Rw w w' a b va vb v q :=
  ⟨W.heap.size, hr, T.la.lt, T.lb.lt⟩
theorem same_rw {w w' : World} {a b : Nat} {va vb v v' : Value} {q : List Pr} (h : Rw w w' a b va vb v q) (h' : Rw w w' a b va vb v' q) (hq : q.length ≤ 100000) : Calls Try.prog 21 #[v, v'] w' (LightW w' true) := by
  obtain ⟨_, h1, _⟩ := h.row
  obtain ⟨_, h2, _⟩ := h'.row
  exact same_yes h1 h2 hq
theorem al2 {w W : World} {o o' : Obj} (h : Hid (W = (w.alloc o).alloc o')) : Below w.heap.size w W := by
  rw [h.out]; exact ((Below.refl _ _).alloc (Nat.le_refl _) _).alloc (by simp) _
set_option maxRecDepth 100000 in
set_option maxHeartbeats 4000000 in
theorem towers_main {w : World} {A B : Option Addr} {c d : Nat} {l : List Ac} {hs : List Int} (key : ByteArray) (RA : Hid (ARow w A l)) (RB : Hid (NRow w B hs)) (hl : l.length ≤ 80) (hhs : hs.length ≤ 100) (hk : key.size ≤ 300) (hok : ∀ x ∈ l, okA l.length 80 x) :
    Calls Try.prog 4 #[.slice A l.length c, .slice B hs.length d, .string key] w (LightW w true) := by
  have HO := Lib.hid hok
  clear hok
  have hd1 : decide ((100 : Int) < (hs.length : Int)) = false := by simp; omega
  have hd2 : decide ((300 : Int) < (key.size : Int)) = false := by simp; omega
  go_enter Try.func4, Try.ntmps4
  go_wp2_with (first
    | (go_at_call 7; (with_reducible refine (awake_any _).mono ?_); rintro e w1 ⟨rfl, b1⟩)
    | (go_at_call 8; (with_reducible refine (light_all (m := 80) (mi := 80) rfl (arow_on RA b1) (by omega) (by decide) HO.out).mono ?_); rintro e w2 ⟨rfl, b2⟩)
    | (go_at_call 9; have Z := H3; (with_reducible refine (new_any _).mono ?_); rintro e w4 ⟨rfl, h4, b4⟩; have H4 := Lib.hid (And.intro h4 b4); clear h4 b4)
    | (go_at_call 9; (with_reducible refine (new_any _).mono ?_); rintro e w3 ⟨rfl, h3, b3⟩; have H3 := Lib.hid (And.intro h3 b3); clear h3 b3))
  have hb2 := b1.trans (b2.mono b1.size)
  have T0 : Hid (Two w w4 w2.heap.size w3.heap.size (.slice none 0 0) (.slice none 0 0) [] [] 0 0) := by
    have h3 := H3.out
    have h4 := H4.out
    have hlt := h3.1.lt w2.heap.size (by simp [feet])
    have s2 := hb2.size
    have s3 := h3.2.size
    refine ⟨h3.1.below h4.2, h4.1, fun k hk hkb => ?_, fun k hk => ?_, fun k hk => ?_, (hb2.trans (h3.2.mono hb2.size)).trans (h4.2.mono (by omega))⟩
    · simp [feet, Value.ownBlock] at hk hkb; omega
    · simp [feet, Value.ownBlock] at hk; omega
    · simp [feet, Value.ownBlock] at hk; omega
  clear H3 H4 b1 b2 hb2
  go_loopw [35] (TwRel w w2.heap.size w3.heap.size l) (fun i _ => l.length - (intOf i).toNat)
  case atStart => exact ⟨0, _, _, 0, 0, by omega, rfl, by omega, by omega, T0.out⟩
  case round =>
    obtain ⟨j, va, vb, na, nb, hj, rfl, hna, hnb, T⟩ := hrel
    have HT := Lib.hid T
    clear T T0
    by_cases hlt : j < l.length
    · obtain ⟨a, rfl, hab, hca⟩ := RA.out (by omega)
      obtain ⟨x0, x1, x2⟩ := hca j hlt
      obtain ⟨o1, o2, o3⟩ := HO.out l[j] (List.getElem_mem hlt)
      have hbl : (a.add (j * 3)).block < w.heap.size := by rw [block_add]; exact hab
      rw [← HT.out.bel.cell (p := a.add (j * 3)) hbl] at x0
      rw [← HT.out.bel.cell (p := ⟨(a.add (j * 3)).block, (a.add (j * 3)).off + 1, none⟩) hbl] at x1
      rw [← HT.out.bel.cell (p := ⟨(a.add (j * 3)).block, (a.add (j * 3)).off + 2, none⟩) hbl] at x2
      have hsn := Lib.hid (puts_snoc hlt)
      clear hca
      generalize l[j] = y at *
      generalize hP0 : puts (l.take j) = P0 at *
      have hka : Hid (y.key.size ≤ 1099511627776) := by rw [Hid]; omega
      have hva : Hid (y.value.size ≤ 1099511627776) := by rw [Hid]; omega
      clear hP0
      have TB := Lib.hid (HT.out.on ((Below.refl _ wr).alloc (Nat.le_refl _) (.cells #[.string y.key, .string y.value, .int .i64 y.height] 30)))
      have hbox : Hid ((wr.alloc (.cells #[.string y.key, .string y.value, .int .i64 y.height] 30)).heap[wr.heap.size]? = some (.cells #[.string y.key, .string y.value, .int .i64 y.height] 30 (0, 0))) := heap_alloc_new wr _
      have hnf : Hid (wr.heap.size ∉ feet w2.heap.size va) := fun hm => by have := HT.out.la.lt _ hm; omega
      by_cases hjh : j < hs.length
      · obtain ⟨b, rfl, hbb, hcb⟩ := RB.out (by omega)
        have hcj := hcb j hjh
        generalize hs[j] = hh at hcj
        clear hcb
        go_wp2_with (first
          | (go_at_call 10; have Z := T5; (with_reducible refine (putL_any T5.out.lb y.key y.value hka.out hva.out _ (by omega)).mono ?_); rintro e w6 ⟨rfl, vb', nb', hL6, hn6, hM6⟩; have T6 := Lib.hid (T5.out.right hL6 hM6); clear hL6 hM6)
          | (go_at_call 10; (with_reducible refine (putL_any TB.out.la y.key y.value hka.out hva.out _ (by omega)).mono ?_); rintro e w5 ⟨rfl, va', na', hL5, hn5, hM5⟩; have B5 := (hM5.only.block _ (by simp) hnf.out).trans hbox.out; have k50 := cell_in B5 0 (.string y.key) rfl; have k51 := cell_in B5 1 (.string y.value) rfl; have T5 := Lib.hid (TB.out.left hL5 hM5); have h5c : w5.cell? (b.add j) = some (.int .i64 hh) := (T5.out.bel.cell (p := b.add j) (by rw [block_add]; exact hbb)).trans hcj; clear hL5 hM5 B5))
        go_roundw
        case rel => exact ⟨j + 1, va', vb', na', nb', by omega, by go_num, by omega, by omega, by rw [hsn.out]; exact T6.out⟩
        case measure => simp [intOf]; omega
      · go_wp2_with (first
          | (go_at_call 10; have Z := T5; (with_reducible refine (putL_any T5.out.lb y.key y.value hka.out hva.out _ (by omega)).mono ?_); rintro e w6 ⟨rfl, vb', nb', hL6, hn6, hM6⟩; have T6 := Lib.hid (T5.out.right hL6 hM6); clear hL6 hM6)
          | (go_at_call 10; (with_reducible refine (putL_any TB.out.la y.key y.value hka.out hva.out _ (by omega)).mono ?_); rintro e w5 ⟨rfl, va', na', hL5, hn5, hM5⟩; have B5 := (hM5.only.block _ (by simp) hnf.out).trans hbox.out; have k50 := cell_in B5 0 (.string y.key) rfl; have k51 := cell_in B5 1 (.string y.value) rfl; have T5 := Lib.hid (TB.out.left hL5 hM5); clear hL5 hM5 B5))
        go_roundw
        case rel => exact ⟨j + 1, va', vb', na', nb', by omega, by go_num, by omega, by omega, by rw [hsn.out]; exact T6.out⟩
        case measure => simp [intOf]; omega
    · have HQ1 : Hid (((upL (puts (l.take j)) key).take 200).length ≤ 100000) := by rw [Hid, List.length_take]; omega
      have HQ2 : Hid (((dnL (puts (l.take j)) key).take 200).length ≤ 100000) := by rw [Hid, List.length_take]; omega
      generalize puts (l.take j) = P0 at *
      go_wp2_with (first
        | (go_at_call 12; have Z6 := T5; (with_reducible refine (getL_any T5.out.lb key).mono ?_); rintro e w6 ⟨rfl, hL, hM⟩; have T6 := Lib.hid (T5.out.right hL hM); clear hL hM)
        | (go_at_call 12; (with_reducible refine (getL_any HT.out.la key).mono ?_); rintro e w5 ⟨rfl, hL, hM⟩; have T5 := Lib.hid (HT.out.left hL hM); clear hL hM)
        | (go_at_call 15; (with_reducible first | refine (lenL_any T6.out.la).mono ?_ | refine (lenL_any T6.out.lb).mono ?_); rintro e w' ⟨rfl, rfl⟩)
        | (go_at_call 16; (with_reducible first | refine (bytesL_any T6.out.la).mono ?_ | refine (bytesL_any T6.out.lb).mono ?_); rintro e w' ⟨rfl, rfl⟩)
        | (go_at_call 23; have Z9 := T8; (with_reducible refine (from_any _ w3.heap.size key).mono ?_); rintro e w9 ⟨rfl, hE⟩; have E9 := Lib.hid hE; clear hE)
        | (go_at_call 23; (with_reducible refine (from_any _ w2.heap.size key).mono ?_); rintro e w7 ⟨rfl, hE⟩; have E7 := Lib.hid hE; clear hE)
        | (go_at_call 22; have Z15 := E14; (with_reducible refine (rowDown T13.out.lb key 200 (by decide) (mi := 200) rfl E14.out).mono ?_); rintro e w15 ⟨v15, rfl, hr, hL, hM⟩; have hbE := al2 E14; have T14 := Lib.hid (T13.out.on hbE); have T15 := Lib.hid (T14.out.right hL hM); have R15 := Lib.hid (Rw.of T14.out hr); have K13 := Lib.hid ((R13.out.on hbE).right hM); clear hr hL hM hbE)
        | (go_at_call 22; have Z13 := E12; (with_reducible refine (rowDown T11.out.la key 200 (by decide) (mi := 200) rfl E12.out).mono ?_); rintro e w13 ⟨v13, rfl, hr, hL, hM⟩; have hbE := al2 E12; have T12 := Lib.hid (T11.out.on hbE); have T13 := Lib.hid (T12.out.left hL hM); have R13 := Lib.hid (Rw.of T12.out hr); clear hr hL hM hbE)
        | (go_at_call 22; have Z10 := E9; (with_reducible refine (rowFrom T8.out.lb key 200 (by decide) (mi := 200) rfl E9.out).mono ?_); rintro e w10 ⟨v10, rfl, hr, hL, hM⟩; have hbE := al2 E9; have T9 := Lib.hid (T8.out.on hbE); have T10 := Lib.hid (T9.out.right hL hM); have R10 := Lib.hid (Rw.of T9.out hr); have K8 := Lib.hid ((R8.out.on hbE).right hM); clear hr hL hM hbE)
        | (go_at_call 22; have Z8 := E7; (with_reducible refine (rowFrom T6.out.la key 200 (by decide) (mi := 200) rfl E7.out).mono ?_); rintro e w8 ⟨v8, rfl, hr, hL, hM⟩; have hbE := al2 E7; have T7 := Lib.hid (T6.out.on hbE); have T8 := Lib.hid (T7.out.left hL hM); have R8 := Lib.hid (Rw.of T7.out hr); clear hr hL hM hbE)
        | (go_at_call 21; have Z16 := K13; (with_reducible refine (same_rw K13.out R15.out HQ2.out).mono ?_); rintro e w16 ⟨rfl, b16⟩; have T16 := Lib.hid (T15.out.on b16); clear b16)
        | (go_at_call 21; (with_reducible refine (same_rw K8.out R10.out HQ1.out).mono ?_); rintro e w11 ⟨rfl, b11⟩; have T11 := Lib.hid (T10.out.on b11); clear b11)
        | (go_at_call 24; have Z14 := T13; (with_reducible refine (down_any _ w3.heap.size key).mono ?_); rintro e w14 ⟨rfl, hE⟩; have E14 := Lib.hid hE; clear hE)
        | (go_at_call 24; (with_reducible refine (down_any _ w2.heap.size key).mono ?_); rintro e w12 ⟨rfl, hE⟩; have E12 := Lib.hid hE; clear hE))
      go_ret
      exact ⟨rfl, T16.out.bel⟩
set_option maxRecDepth 100000 in
set_option maxHeartbeats 1000000 in
theorem towers_out {w : World} {A B : Option Addr} {c d : Nat} {l : List Ac} {hs : List Int} (key : ByteArray) (RA : Hid (ARow w A l)) (hl : l.length ≤ 9223372036854775807) (hhs : hs.length ≤ 9223372036854775807) (hk : key.size ≤ 9223372036854775807) (hsz : ∀ p ∈ l, p.key.size ≤ 9223372036854775807 ∧ p.value.size ≤ 9223372036854775807)
    (hbad : (¬ ∀ x ∈ l, okA l.length 80 x) ∨ ((∀ x ∈ l, okA l.length 80 x) ∧ 100 < hs.length) ∨ ((∀ x ∈ l, okA l.length 80 x) ∧ hs.length ≤ 100 ∧ 300 < key.size)) :
    Calls Try.prog 4 #[.slice A l.length c, .slice B hs.length d, .string key] w (LightW w true) := by
  have HZ := Lib.hid hsz
  clear hsz
  rcases hbad with h | ⟨h, h1⟩ | ⟨h, h1, h2⟩
  · have HO := Lib.hid h
    clear h
    go_enter Try.func4, Try.ntmps4
    go_wp2_with (first
      | (go_at_call 7; (with_reducible refine (awake_any _).mono ?_); rintro e w1 ⟨rfl, b1⟩)
      | (go_at_call 8; (with_reducible refine (light_bad (m := 80) (mi := 80) rfl (arow_on RA b1) hl (by decide) HZ.out HO.out).mono ?_); rintro e w2 ⟨rfl, b2⟩))
    go_ret
    exact ⟨rfl, b1.trans (b2.mono b1.size)⟩
  · have HO := Lib.hid h
    clear h
    go_enter Try.func4, Try.ntmps4
    go_wp2_with (first
      | (go_at_call 7; (with_reducible refine (awake_any _).mono ?_); rintro e w1 ⟨rfl, b1⟩)
      | (go_at_call 8; (with_reducible refine (light_all (m := 80) (mi := 80) rfl (arow_on RA b1) hl (by decide) HO.out).mono ?_); rintro e w2 ⟨rfl, b2⟩))
    go_ret
    exact ⟨rfl, b1.trans (b2.mono b1.size)⟩
  · have HO := Lib.hid h
    clear h
    go_enter Try.func4, Try.ntmps4
    go_wp2_with (first
      | (go_at_call 7; (with_reducible refine (awake_any _).mono ?_); rintro e w1 ⟨rfl, b1⟩)
      | (go_at_call 8; (with_reducible refine (light_all (m := 80) (mi := 80) rfl (arow_on RA b1) hl (by decide) HO.out).mono ?_); rintro e w2 ⟨rfl, b2⟩))
    go_ret
    exact ⟨rfl, b1.trans (b2.mono b1.size)⟩
end Go.Proofs.Ytfbfclejegajpaa.Sk
