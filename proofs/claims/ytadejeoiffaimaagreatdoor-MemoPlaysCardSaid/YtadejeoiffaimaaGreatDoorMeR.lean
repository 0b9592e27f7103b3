/-
  The document's own answers for rows of entries, walked. Conditions: as each theorem states.
-/
import Derived.Test.YtadejeoiffaimaaGreatDoorMeQ
namespace Go.Proofs.YtadejeoiffaimaaGreatDoor.Me
open Go.RowKit
open Vi

def fromE (q : List En) (k : ByteArray) : List En := q.filter (fun x => !Sk.lt x.key k)
def downE (q : List En) (k : ByteArray) : List En := (q.filter (fun x => decide (k = ⟨#[]⟩) || !Sk.lt k x.key)).reverse
def rgetE (q : List En) (k : ByteArray) (at_ : Nat) : Option En := q.find? (fun x => decide (x.key = k) && decide (x.seq ≤ at_))
theorem from_snoc {P : List En} {j : Nat} (h : j < P.length) (k : ByteArray) : fromE (P.take (j + 1)) k = fromE (P.take j) k ++ (if Sk.lt P[j].key k = true then [] else [P[j]]) := by
  unfold fromE
  rw [List.take_succ_eq_append_getElem h, List.filter_append]
  cases h2 : Sk.lt P[j].key k <;> simp [h2]
theorem down_step {P : List En} {j : Nat} (h : j < P.length) (k : ByteArray) : downE (P.drop j) k = downE (P.drop (j + 1)) k ++ (if (decide (k = ⟨#[]⟩) || !Sk.lt k P[j].key) = true then [P[j]] else []) := by
  unfold downE
  rw [List.drop_eq_getElem_cons h, List.filter_cons]
  split <;> simp
theorem bytes_snoc {P : List En} {j : Nat} (h : j < P.length) : bytesE (P.take (j + 1)) = bytesE (P.take j) + (P[j].key.size + P[j].val.size + 8) := by
  unfold bytesE
  rw [List.take_succ_eq_append_getElem h, List.map_append, List.sum_append]; simp
theorem from_len (q : List En) (k : ByteArray) : (fromE q k).length ≤ q.length := List.length_filter_le _ _
theorem find_at {f : En → Bool} : ∀ {l : List En} {j : Nat} (hj : j < l.length), (∀ i (hi : i < l.length), i < j → f l[i] = false) → f l[j] = true → l.find? f = some l[j]
  | x :: l, 0, _, _, h => by rw [List.find?_cons, show f x = true from h]; rfl
  | x :: l, j + 1, hj, hlo, h => by
    rw [List.find?_cons, show f x = false from hlo 0 (by simp) (by omega)]
    exact find_at (l := l) (j := j) (by simpa using hj) (fun i hi hij => hlo (i + 1) (by simpa using hi) (by omega)) h
theorem e_box {W : World} (e : En) (t : TypeId) : (W.alloc (.cells #[.string e.key, .int .u64 e.seq, .int .i64 e.kind, .string e.val] t)).heap[W.heap.size]? = some (.cells #[.string e.key, .int .u64 e.seq, .int .i64 e.kind, .string e.val] t (0, 0)) := heap_alloc_new W _
def OutE (w : World) (O : List En) (e : Ending) (w' : World) : Prop := ∃ v, e = .returned v ∧ w'.ownsRow w.heap.size 30 4 v O.length (eRow O) ∧ Below w.heap.size w w'
theorem ebelow_grown {w wr W' : World} {v : Value} {n : Nat} {xs : List Value} (hb : Below w.heap.size w wr) (h : wr.ownsRow w.heap.size 30 4 v n xs) (hg : wr.grownBy W' v.ownBlock) : Below w.heap.size w W' :=
  hb.trans ⟨hg.os, hg.tape, hg.output, hg.size, fun k hk => hg.block k (Nat.lt_of_lt_of_le hk hb.size) fun e => by have := (h.lt k e.symm).1; omega⟩
theorem ne_lists {a b : ByteArray} (h : ¬ a = b) : ¬ a.toList = b.toList ∧ (a.toList == b.toList) = false := by
  have h1 : ¬ a.toList = b.toList := fun e => h (data_inj (by rw [← toL, ← toL]; exact e))
  exact ⟨h1, by simpa using h1⟩
set_option maxRecDepth 100000 in
set_option maxHeartbeats 2000000 in
theorem rbytes_e {w : World} {v : Value} {q : List En} (h : EAt w v q) (hq : q.length ≤ 1000) (hsz : ∀ x ∈ q, x.key.size ≤ 300 ∧ x.val.size ≤ 1000) :
    Calls Tryz.prog 15 #[v] w fun e w' => e = .returned (.int .i64 (bytesE q : Nat)) ∧ Below w.heap.size w w' := by
  obtain ⟨A, c, rfl, _, hc⟩ := h
  have HC := Lib.hid hc
  have HS := Lib.hid hsz
  clear hc hsz
  go_enter Tryz.func15, Tryz.ntmps15
  go_wp2
  go_loopw [3, 8] (fun n i wr => ∃ (j m : Nat), j ≤ q.length ∧ m = bytesE (q.take j) ∧ m ≤ 2000 * j ∧ n = .int .i64 (m : Nat) ∧ i = .int .i64 j ∧ Below w.heap.size w wr) (fun _ i _ => q.length - (intOf i).toNat)
  case atStart => exact ⟨0, 0, by omega, rfl, by omega, rfl, rfl, Below.refl _ _⟩
  case round =>
    obtain ⟨j, m, hj, hm, hm6, rfl, rfl, hb⟩ := hrel
    by_cases hlt : j < q.length
    · obtain ⟨g0, rfl, hg0, hx⟩ := HC.out (by omega)
      obtain ⟨y0, y1, y2, y3⟩ := e_cells (fun j x hjx => (hb.cell (p := ⟨g0, j, none⟩) hg0).trans (hx j x hjx)) hlt
      have ht := bytes_snoc hlt
      rw [← hm] at ht
      obtain ⟨s1, s2⟩ := HS.out q[j] (List.getElem_mem hlt)
      clear hx hm
      generalize q[j] = y at *
      have HT := Lib.hid ht
      replace hb := Lib.hid hb
      clear ht
      obtain ⟨z0, z1, z2, z3⟩ := box4 (e_box (W := wr) y 30)
      go_wp2
      go_roundw
      case rel => exact ⟨j + 1, m + (y.key.size + y.val.size + 8), by omega, HT.out.symm, by omega, by go_num, by go_num, hb.out.alloc hb.out.size _⟩
      case measure => simp [intOf]; omega
    · have hjl : j = q.length := by omega
      rw [hjl, List.take_length] at hm
      replace hm := Lib.hid hm
      replace hb := Lib.hid hb
      go_wp2
      go_ret
      exact ⟨by rw [← hm.out]; rfl, hb.out⟩
set_option maxRecDepth 100000 in
set_option maxHeartbeats 2000000 in
theorem rfrom_e {w : World} {v : Value} {q : List En} (h : EAt w v q) (k : ByteArray) (hq : q.length ≤ 1000) :
    Calls Tryz.prog 16 #[v, .string k] w (OutE w (fromE q k)) := by
  obtain ⟨A, c, rfl, _, hc⟩ := h
  have HC := Lib.hid hc
  clear hc
  obtain ⟨i0, hi, hz0, hz1, hz2⟩ := info_parts infoE
  have HI := Lib.hid (And.intro hi (And.intro hz0 (And.intro hz1 hz2)))
  clear hi hz0 hz1 hz2
  go_enter Tryz.func16, Tryz.ntmps16
  go_wp2
  go_loopw [5, 10] (fun v i wr => ∃ (j : Nat) (O : List En), j ≤ q.length ∧ O = fromE (q.take j) k ∧ O.length ≤ q.length + 1 ∧ i = .int .i64 j ∧ wr.ownsRow w.heap.size 30 4 v O.length (eRow O) ∧ Below w.heap.size w wr) (fun _ i _ => q.length - (intOf i).toNat)
  case atStart => exact ⟨0, [], by omega, rfl, by simp, rfl, World.ownsRow_nil _ _ _ _, Below.refl _ _⟩
  case round =>
    obtain ⟨j, O, hj, hO, hOl, rfl, hown, hb⟩ := hrel
    by_cases hlt : j < q.length
    · obtain ⟨g0, rfl, hg0, hx⟩ := HC.out (by omega)
      have hs := from_snoc hlt k
      obtain ⟨y0, y1, y2, y3⟩ := e_cells (fun j x hjx => (hb.cell (p := ⟨g0, j, none⟩) hg0).trans (hx j x hjx)) hlt
      have hOs : O.length ≤ j := by rw [hO]; have := from_len (q.take j) k; rw [List.length_take] at this; omega
      rw [← hO] at hs
      clear hx hO
      generalize q[j] = y at *
      have HO := Lib.hid hown
      have HB := Lib.hid hb
      have hsz := hb.size
      have hinf := ent_info
      obtain ⟨z0, z1, z2, z3⟩ := box4 (e_box (W := wr) y 30)
      clear hown hb
      cases hl : Sk.lt y.key k with
      | true =>
        have hl2 : Op.bytesLess y.key.toList k.toList = true := hl
        rw [hl, if_pos rfl, List.append_nil] at hs
        have HS := Lib.hid hs
        clear hs hl
        go_wp2
        go_roundw
        case rel => exact ⟨j + 1, O, by omega, HS.out.symm, by omega, by go_num, HO.out.alloc _, HB.out.alloc HB.out.size _⟩
        case measure => simp [intOf]; omega
      | false =>
        have hl2 : Op.bytesLess y.key.toList k.toList = false := hl
        rw [hl, if_neg (by decide)] at hs
        have HS := Lib.hid hs
        clear hs hl
        go_wp2_with (first
          | (at_builtin
             refine wpList_append_lies _ rfl _ _ 22 rfl w.heap.size 30 i0 _ 4 48 Tryz.underlying22 HI.out.1 HI.out.2.1 HI.out.2.2.1 HI.out.2.2.2 rfl (by decide) u5 O.length (eRow O) rfl ((HO.out.alloc _).alloc _) ⟨wr.heap.size + 1, 0, none⟩ 1 1 (eCells y) rfl rfl (enews _ _ (by simp) _ _) (e_one y) (by omega) (by unfold maxLen; omega) (by omega) (by simp; omega) (wr.heap.size + 2) (by simp) ?_
             intro g cap w4 hown4 hgrow4 hwhere hlt4
             have HE := Lib.hid (And.intro hown4 hgrow4)
             clear hown4 hgrow4 hwhere hlt4))
        go_roundw
        case rel => exact ⟨j + 1, O ++ [y], by omega, HS.out.symm, by simp; omega, by go_num, by rw [← eRow_snoc, List.length_append]; exact HE.out.1, ebelow_grown ((HB.out.alloc HB.out.size _).alloc (by simp; omega) _) ((HO.out.alloc _).alloc _) HE.out.2⟩
        case measure => simp [intOf]; omega
    · have hjl : j = q.length := by omega
      have hO2 : O = fromE q k := by rw [hO, hjl, List.take_length]
      subst hO2
      replace hown := Lib.hid hown
      replace hb := Lib.hid hb
      clear hO
      go_wp2
      go_ret
      exact ⟨_, rfl, hown.out, hb.out⟩
set_option maxRecDepth 100000 in
set_option maxHeartbeats 2000000 in
theorem rdown_e {w : World} {v : Value} {q : List En} (h : EAt w v q) (k : ByteArray) (hq : q.length ≤ 1000) :
    Calls Tryz.prog 17 #[v, .string k] w (OutE w (downE q k)) := by
  obtain ⟨A, c, rfl, _, hc⟩ := h
  have HC := Lib.hid hc
  clear hc
  obtain ⟨i0, hi, hz0, hz1, hz2⟩ := info_parts infoE
  have HI := Lib.hid (And.intro hi (And.intro hz0 (And.intro hz1 hz2)))
  clear hi hz0 hz1 hz2
  go_enter Tryz.func17, Tryz.ntmps17
  go_wp2
  go_loopw [5, 6] (fun v i wr => ∃ (j : Nat) (O : List En), j ≤ q.length ∧ O = downE (q.drop j) k ∧ O.length ≤ q.length - j ∧ i = .int .i64 ((j : Int) - 1) ∧ wr.ownsRow w.heap.size 30 4 v O.length (eRow O) ∧ Below w.heap.size w wr) (fun _ i _ => (intOf i + 1).toNat)
  case atStart => exact ⟨q.length, [], by omega, by rw [List.drop_length]; rfl, by simp, by first | rfl | exact val_int (by omega), World.ownsRow_nil _ _ _ _, Below.refl _ _⟩
  case round =>
    obtain ⟨j, O, hj, hO, hOl, rfl, hown, hb⟩ := hrel
    by_cases h0 : j = 0
    · subst h0
      rw [List.drop_zero] at hO
      subst hO
      replace hown := Lib.hid hown
      replace hb := Lib.hid hb
      go_wp2
      go_ret
      exact ⟨_, rfl, hown.out, hb.out⟩
    · obtain ⟨i, rfl⟩ : ∃ i, j = i + 1 := ⟨j - 1, by omega⟩
      have hlt : i < q.length := by omega
      have e1 : ((i + 1 : Nat) : Int) - 1 = (i : Int) := by omega
      rw [e1]
      clear e1
      obtain ⟨g0, rfl, hg0, hx⟩ := HC.out (by omega)
      have hs := down_step hlt k
      obtain ⟨y0, y1, y2, y3⟩ := e_cells (fun j x hjx => (hb.cell (p := ⟨g0, j, none⟩) hg0).trans (hx j x hjx)) hlt
      rw [← hO] at hs
      clear hx hO
      generalize q[i] = y at *
      have HO := Lib.hid hown
      have HB := Lib.hid hb
      have hsz := hb.size
      clear hown hb
      by_cases hk : k = ⟨#[]⟩
      · subst hk
        rw [decide_eq_true rfl, Bool.true_or, if_pos rfl] at hs
        have HS := Lib.hid hs
        clear hs
        go_wp2_with (first
          | (at_builtin
             refine wpList_append_lies _ rfl _ _ 22 rfl w.heap.size 30 i0 _ 4 48 Tryz.underlying22 HI.out.1 HI.out.2.1 HI.out.2.2.1 HI.out.2.2.2 rfl (by decide) u5 O.length (eRow O) rfl (HO.out.alloc _) ⟨wr.heap.size, 0, none⟩ 1 1 (eCells y) rfl rfl (enews _ _ (by simp) _ _) (e_one y) (by omega) (by unfold maxLen; omega) (by omega) (by simp; omega) (wr.heap.size + 1) (by simp) ?_
             intro g cap w4 hown4 hgrow4 hwhere hlt4
             have HE := Lib.hid (And.intro hown4 hgrow4)
             clear hown4 hgrow4 hwhere hlt4))
        go_roundw
        case rel => exact ⟨i, O ++ [y], by omega, HS.out.symm, by simp; omega, by go_num, by rw [← eRow_snoc, List.length_append]; exact HE.out.1, ebelow_grown (HB.out.alloc HB.out.size _) (HO.out.alloc _) HE.out.2⟩
        case measure => simp [intOf] <;> omega
      · rw [decide_eq_false hk, Bool.false_or] at hs
        obtain ⟨hke1, hke⟩ := ne_lists hk
        have he0 : (⟨#[]⟩ : ByteArray).toList = [] := ByteArray.toList_mk []
        rw [he0] at hke1 hke
        have hke3 : k.toList.isEmpty = false := by cases h : k.toList with
          | nil => exact absurd h hke1
          | cons => rfl
        cases hl : Sk.lt k y.key with
        | true =>
          have hl2 : Op.bytesLess y.key.toList k.toList = false := Sk.lt_anti hl
          have hne3 : (y.key.toList == k.toList) = false := (ne_lists (fun e => by rw [e, Sk.lt_irr] at hl; cases hl)).2
          rw [hl, if_neg (by decide), List.append_nil] at hs
          have HS := Lib.hid hs
          clear hs hl
          go_wp2
          go_roundw
          case rel => exact ⟨i, O, by omega, HS.out.symm, by omega, by go_num, HO.out, HB.out⟩
          case measure => simp [intOf] <;> omega
        | false =>
          have hor : (Op.bytesLess y.key.toList k.toList || y.key.toList == k.toList) = true := by
            cases hp : Sk.lt y.key k with
            | true => rw [show Op.bytesLess y.key.toList k.toList = true from hp]; rfl
            | false => rw [Sk.lt_tri hp hl]; simp
          rw [hl, show (!false) = true from rfl, if_pos rfl] at hs
          have HS := Lib.hid hs
          clear hs hl
          go_wp2_with (first
            | (at_builtin
               refine wpList_append_lies _ rfl _ _ 22 rfl w.heap.size 30 i0 _ 4 48 Tryz.underlying22 HI.out.1 HI.out.2.1 HI.out.2.2.1 HI.out.2.2.2 rfl (by decide) u5 O.length (eRow O) rfl (HO.out.alloc _) ⟨wr.heap.size, 0, none⟩ 1 1 (eCells y) rfl rfl (enews _ _ (by simp) _ _) (e_one y) (by omega) (by unfold maxLen; omega) (by omega) (by simp; omega) (wr.heap.size + 1) (by simp) ?_
               intro g cap w4 hown4 hgrow4 hwhere hlt4
               have HE := Lib.hid (And.intro hown4 hgrow4)
               clear hown4 hgrow4 hwhere hlt4))
          go_roundw
          case rel => exact ⟨i, O ++ [y], by omega, HS.out.symm, by simp; omega, by go_num, by rw [← eRow_snoc, List.length_append]; exact HE.out.1, ebelow_grown (HB.out.alloc HB.out.size _) (HO.out.alloc _) HE.out.2⟩
          case measure => simp [intOf] <;> omega
end Go.Proofs.YtadejeoiffaimaaGreatDoor.Me
