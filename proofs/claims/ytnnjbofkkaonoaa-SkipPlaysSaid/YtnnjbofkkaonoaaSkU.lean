/-
  The document's own sorted pairs, walked. Conditions: as each theorem states.
-/
import Derived.Test.YtnnjbofkkaonoaaSkT
import Derived.Test.YtnnjbofkkaonoaaSkP
import Derived.Deep.AppendLies
namespace Go.Proofs.Ytnnjbofkkaonoaa.Sk
open Go.RowKit Go.Shelf

theorem infoPair : (Try.prog.info? 35).map (fun i => (i.zero, i.size, i.bytes)) = some (some (.agg #[.string ⟨#[]⟩, .string ⟨#[]⟩]), 2, 32) := by kernel_rfl
theorem pnews (W : World) (k : Nat) (hk : k = W.heap.size) (x y : Value) (t : TypeId) : ∀ j z, [x, y][j]? = some z → (W.alloc (.cells #[x, y] t)).cell? ((⟨k, 0, none⟩ : Addr).add j) = some z := by
  subst hk
  exact World.news_of_block (heap_alloc_new W _)
/-- a row of pairs in memory -/
def PrAt (w : World) (v : Value) (q : List Pr) : Prop :=
  ∃ A c, v = .slice A q.length c ∧ q.length ≤ c ∧ (0 < q.length → ∃ g, A = some ⟨g, 0, none⟩ ∧ g < w.heap.size ∧ ∀ j x, (prRow q)[j]? = some x → w.cell? ⟨g, j, none⟩ = some x)
theorem prat_below {w w' : World} {v : Value} {q : List Pr} (h : PrAt w v q) (hb : Below w.heap.size w w') : PrAt w' v q := by
  obtain ⟨A, c, hv, hcap, hc⟩ := h
  refine ⟨A, c, hv, hcap, fun h0 => ?_⟩
  obtain ⟨g, hA, hg, hx⟩ := hc h0
  exact ⟨g, hA, Nat.lt_of_lt_of_le hg hb.size, fun j x hj => (hb.cell (p := ⟨g, j, none⟩) hg).trans (hx j x hj)⟩
theorem prat_cells {w : World} {v : Value} {q : List Pr} {g c : Nat} {j : Nat} (hx : ∀ j x, (prRow q)[j]? = some x → w.cell? ⟨g, j, none⟩ = some x) (h : j < q.length) :
    w.cell? ⟨g, j * 2, none⟩ = some (.string q[j].1) ∧ w.cell? ⟨g, j * 2 + 1, none⟩ = some (.string q[j].2) := by
  obtain ⟨p0, p1⟩ := prRow_at h
  exact ⟨hx _ _ p0, hx _ _ p1⟩
theorem pbelow_grown {w wr W' : World} {v : Value} {n : Nat} {xs : List Value} (hb : Below w.heap.size w wr) (h : wr.ownsRow w.heap.size 35 2 v n xs) (hg : wr.grownBy W' v.ownBlock) : Below w.heap.size w W' :=
  hb.trans ⟨hg.os, hg.tape, hg.output, hg.size, fun k hk => hg.block k (Nat.lt_of_lt_of_le hk hb.size) fun e => by have := (h.lt k e.symm).1; omega⟩
theorem lt_of (a b : ByteArray) : Op.bytesLess a.toList b.toList = lt a b := rfl
def URel (w : World) (R : Nat → List Pr → Prop) (n : Nat) (v i : Value) (wr : World) : Prop :=
  ∃ (j : Nat) (O : List Pr), j ≤ n ∧ R j O ∧ O.length ≤ n + 1 ∧ i = .int .i64 j ∧ wr.ownsRow w.heap.size 35 2 v O.length (prRow O) ∧ Below w.heap.size w wr
def OutP (w : World) (O : List Pr) (e : Ending) (w' : World) : Prop := ∃ v, e = .returned v ∧ w'.ownsRow w.heap.size 35 2 v O.length (prRow O) ∧ Below w.heap.size w w'
set_option maxRecDepth 100000 in
set_option maxHeartbeats 2000000 in
theorem rfrom_any {w : World} {v : Value} {q : List Pr} (h : PrAt w v q) (k : ByteArray) (hq : q.length ≤ 1000) :
    Calls Try.prog 16 #[v, .string k] w (OutP w (upL q k)) := by
  obtain ⟨A, c, rfl, _, hc⟩ := h
  have HC := Lib.hid hc
  clear hc
  obtain ⟨i0, hi, hz0, hz1, hz2⟩ := info_parts infoPair
  have HI := Lib.hid (And.intro hi (And.intro hz0 (And.intro hz1 hz2)))
  clear hi hz0 hz1 hz2
  go_enter Try.func16, Try.ntmps16
  go_wp2
  go_loopw [5, 10] (URel w (fun j O => O = upL (q.take j) k) q.length) (fun _ i _ => q.length - (intOf i).toNat)
  case atStart => exact ⟨0, [], by omega, rfl, by simp, rfl, World.ownsRow_nil _ _ _ _, Below.refl _ _⟩
  case round =>
    obtain ⟨j, O, hj, hO, hOl, rfl, hown, hb⟩ := hrel
    by_cases hlt : j < q.length
    · obtain ⟨g0, rfl, hg0, hx⟩ := HC.out (by omega)
      have hs := up_snoc hlt k
      obtain ⟨y0, y1⟩ := prat_cells (v := .pointer none) (c := 0) (fun j x hjx => (hb.cell (p := ⟨g0, j, none⟩) hg0).trans (hx j x hjx)) hlt
      have hOs : O.length ≤ j := by rw [hO]; have := upL_len (q.take j) k; rw [List.length_take] at this; omega
      rw [← hO] at hs
      clear hx hO
      generalize q[j] = y at *
      obtain ⟨yk, yv⟩ := y
      simp only at y0 y1 hs
      have HO := Lib.hid hown
      have HB := Lib.hid hb
      have hsz := hb.size
      clear hown hb
      cases hl : lt yk k with
      | true =>
        have hl2 : Op.bytesLess yk.toList k.toList = true := hl
        rw [hl, if_pos rfl, List.append_nil] at hs
        have HS := Lib.hid hs
        clear hs hl
        go_wp2
        go_roundw
        case rel => exact ⟨j + 1, O, by omega, HS.out.symm, by omega, by go_num, HO.out.alloc _, HB.out.alloc HB.out.size _⟩
        case measure => simp [intOf]; omega
      | false =>
        have hl2 : Op.bytesLess yk.toList k.toList = false := hl
        rw [hl, if_neg (by decide)] at hs
        have HS := Lib.hid hs
        clear hs hl
        go_wp2_with (first
          | (at_builtin
             refine wpList_append_lies _ rfl _ _ 27 rfl w.heap.size 35 i0 _ 2 32 Try.underlying27 HI.out.1 HI.out.2.1 HI.out.2.2.1 HI.out.2.2.2 rfl (by decide) u5 O.length (prRow O) rfl ((HO.out.alloc _).alloc _) ⟨wr.heap.size + 1, 0, none⟩ 1 1 [.string yk, .string yv] rfl rfl (pnews _ _ (by simp) _ _ _) (by simp [Value.oneCell']) (by omega) (by unfold maxLen; omega) (by omega) (by simp; omega) (wr.heap.size + 2) (by simp) ?_
             intro g cap w4 hown4 hgrow4 hwhere hlt4
             have HE := Lib.hid (And.intro hown4 hgrow4)
             clear hown4 hgrow4 hwhere hlt4))
        go_roundw
        case rel => exact ⟨j + 1, O ++ [(yk, yv)], by omega, HS.out.symm, by simp; omega, by go_num, by rw [← prRow_snoc, List.length_append]; exact HE.out.1, pbelow_grown ((HB.out.alloc HB.out.size _).alloc (by simp; omega) _) ((HO.out.alloc _).alloc _) HE.out.2⟩
        case measure => simp [intOf]; omega
    · have hjl : j = q.length := by omega
      have hO2 : O = upL q k := by rw [hO, hjl, List.take_length]
      subst hO2
      replace hown := Lib.hid hown
      replace hb := Lib.hid hb
      clear hO
      go_wp2
      go_ret
      exact ⟨_, rfl, hown.out, hb.out⟩
/-- Put under way: what lies in a row of its own, beside the pair's box -/
structure UP (w : World) (pk pv : ByteArray) (O : List Pr) (v : Value) (W : World) : Prop where
  own : W.ownsRow (w.heap.size + 1) 35 2 v O.length (prRow O)
  below : Below (w.heap.size + 1) (w.alloc (.cells #[.string pk, .string pv] 35 (0, 0))) W
section
variable {w wr W' : World} {pk pv : ByteArray} {O O' : List Pr} {v v' : Value}
theorem up_box (h : UP w pk pv O v wr) : wr.heap[w.heap.size]? = some (.cells #[.string pk, .string pv] 35 (0, 0)) := (h.below.block _ (by omega)).trans (heap_alloc_new w _)
theorem up_size (h : UP w pk pv O v wr) : w.heap.size + 1 ≤ wr.heap.size := by have := h.below.size; simpa using this
theorem up_alloc (h : UP w pk pv O v wr) (o : Obj) : UP w pk pv O v (wr.alloc o) := ⟨h.own.alloc _, h.below.alloc (up_size h) _⟩
theorem up_grown (h : UP w pk pv O v wr) (hg : wr.grownBy W' v.ownBlock) (ho : W'.ownsRow (w.heap.size + 1) 35 2 v' O'.length (prRow O')) : UP w pk pv O' v' W' :=
  ⟨ho, h.below.trans ⟨hg.os, hg.tape, hg.output, hg.size, fun k hk => hg.block k (Nat.lt_of_lt_of_le hk (up_size h)) fun e => by have := (h.own.lt k e.symm).1; omega⟩⟩
theorem up_other (h : UP w pk pv O v wr) {o : Obj} {W2 : World} (hW : W2 = (wr.alloc o)) {o2 : Obj} (hg : (W2.alloc o2).grownBy W' v.ownBlock) : W'.heap[wr.heap.size]? = some o := by
  subst hW
  have hs : ((wr.alloc o).alloc o2).heap.size = wr.heap.size + 2 := by simp
  rw [hg.block _ (by omega) (fun e => by have := (h.own.lt _ e.symm).2; omega)]
  exact (Below.heap_alloc _ _ _ (by simp)).trans (heap_alloc_new wr o)
end
theorem pcells {g : Nat} {t : TypeId} {wr : World} {x0 x1 : Value} (h : wr.heap[g]? = some (.cells #[x0, x1] t (0, 0))) : wr.cell? ⟨g, 0, none⟩ = some x0 ∧ wr.cell? ⟨g, 1, none⟩ = some x1 := ⟨cell_in h 0 _ rfl, cell_in h 1 _ rfl⟩
def PuRel (w : World) (p : Pr) (q : List Pr) (v d i : Value) (wr : World) : Prop :=
  ∃ (j : Nat) (O : List Pr) (b : Bool), j ≤ q.length ∧ rpGo p (q.drop j) b O = rpGo p q false [] ∧ O.length ≤ j + 1 ∧ (b = false → O.length ≤ j) ∧ i = .int .i64 j ∧ d = .bool b ∧ UP w p.1 p.2 O v wr
def PutP (w : World) (O : List Pr) (e : Ending) (w' : World) : Prop := ∃ v, e = .returned v ∧ w'.ownsRow (w.heap.size + 1) 35 2 v O.length (prRow O) ∧ Below w.heap.size w w'
theorem up_end {w wr : World} {pk pv : ByteArray} {O : List Pr} {v : Value} (h : UP w pk pv O v wr) : Below w.heap.size w wr := ((Below.refl _ w).alloc (Nat.le_refl _) _).trans (h.below.mono (by omega))
set_option maxRecDepth 100000 in
set_option maxHeartbeats 4000000 in
theorem rput_any {w : World} {v : Value} {q : List Pr} (h : PrAt w v q) (pk pv : ByteArray) (hq : q.length ≤ 1000) :
    Calls Try.prog 8 #[v, .agg #[.string pk, .string pv]] w (PutP w (rpGo (pk, pv) q false [])) := by
  obtain ⟨A, c, rfl, _, hc⟩ := h
  have HC := Lib.hid hc
  clear hc
  obtain ⟨i0, hi, hz0, hz1, hz2⟩ := info_parts infoPair
  have HI := Lib.hid (And.intro hi (And.intro hz0 (And.intro hz1 hz2)))
  clear hi hz0 hz1 hz2
  go_enter Try.func8, Try.ntmps8
  go_wp2
  go_loopw [5, 6, 11] (PuRel w (pk, pv) q) (fun _ _ i _ => q.length - (intOf i).toNat)
  case atStart => exact ⟨0, [], false, by omega, rfl, by simp, by simp, rfl, rfl, World.ownsRow_nil _ _ _ _, Below.refl _ _⟩
  case round =>
    obtain ⟨j, O, b, hj, hR, hO1, hO2, rfl, rfl, P⟩ := hrel
    replace P := Lib.hid P
    obtain ⟨p0, p1⟩ := pcells (up_box P.out)
    have hsz := up_size P.out
    by_cases hlt : j < q.length
    · obtain ⟨g0, rfl, hg0, hx⟩ := HC.out (by omega)
      have hb := up_end P.out
      obtain ⟨y0, y1⟩ := prat_cells (v := .pointer none) (c := 0) (fun j x hjx => (hb.cell (p := ⟨g0, j, none⟩) hg0).trans (hx j x hjx)) hlt
      rw [List.drop_eq_getElem_cons hlt] at hR
      clear hx hb
      generalize q[j] = y at *
      obtain ⟨yk, yv⟩ := y
      simp only at y0 y1
      obtain ⟨p2, p3⟩ := pcells (up_box (up_alloc P.out (.cells #[.string yk, .string yv] 35)))
      by_cases he : yk = pk
      · subst he
        have hirr : Op.bytesLess yk.toList yk.toList = false := lt_irr yk
        cases b with
        | true =>
          have HR := Lib.hid ((rp_skip (p := (yk, pv)) (x := (yk, yv)) (l := q.drop (j + 1)) (o := O) (d := true) rfl rfl).symm.trans hR)
          clear hR
          go_wp2
          go_roundw
          case rel => exact ⟨j + 1, O, true, by omega, HR.out, by omega, by simp, by go_num, rfl, up_alloc P.out _⟩
          case measure => simp [intOf]; omega
        | false =>
          have HR := Lib.hid ((rp_swap (p := (yk, pv)) (x := (yk, yv)) (l := q.drop (j + 1)) (o := O) (d := false) (by rw [show lt (yk, yv).1 (yk, pv).1 = false from lt_irr yk]; rfl) rfl).symm.trans hR)
          have hOj := hO2 rfl
          clear hR
          go_wp2_with (first
            | (at_builtin
               refine wpList_append_lies _ rfl _ _ 27 rfl (w.heap.size + 1) 35 i0 _ 2 32 Try.underlying27 HI.out.1 HI.out.2.1 HI.out.2.2.1 HI.out.2.2.2 rfl (by decide) u5 O.length (prRow O) rfl (up_alloc (up_alloc P.out _) _).own ⟨wr.heap.size + 1, 0, none⟩ 1 1 [.string yk, .string pv] rfl rfl (pnews _ _ (by simp) _ _ _) (by simp [Value.oneCell']) (by omega) (by unfold maxLen; omega) (by omega) (by simp; omega) (wr.heap.size + 2) (by simp) ?_
               intro g cap w4 hown4 hgrow4 hwhere hlt4
               have HE := Lib.hid (And.intro hown4 hgrow4)
               have X4 := up_other P.out rfl hgrow4; obtain ⟨z0, z1⟩ := pcells X4; have P4 := Lib.hid (up_grown (O' := O ++ [(yk, pv)]) (up_alloc (up_alloc P.out _) _) hgrow4 (by rw [← prRow_snoc, List.length_append]; exact hown4)); obtain ⟨s0, s1⟩ := pcells (up_box P4.out); have hz4 := hgrow4.size; have hz5 : wr.heap.size < w4.heap.size := (Array.getElem?_eq_some_iff.1 X4).1
               clear hown4 hgrow4 hwhere hlt4))
          go_roundw
          case rel => exact ⟨j + 1, O ++ [(yk, pv)], true, by omega, by rw [show lt (yk, yv).1 (yk, pv).1 = false from lt_irr yk] at HR; exact HR.out, by simp; omega, by simp, by go_num, rfl, P4.out⟩
          case measure => simp [intOf]; omega
      · have hne : (yk.toList == pk.toList) = false := by
          rw [Lib.toList_data, Lib.toList_data]
          have : ¬ yk.data.toList = pk.data.toList := fun e => he (ba_ext e)
          simpa using this
        have hne2 : (yk.toList != pk.toList) = true := by simp [bne, hne]
        have hne3 : (pk.toList == yk.toList) = false := by
          rw [Lib.toList_data, Lib.toList_data]
          have : ¬ pk.data.toList = yk.data.toList := fun e => he (ba_ext e.symm)
          simpa using this
        cases b with
        | true =>
          have HR := Lib.hid ((rp_keep (p := (pk, pv)) (x := (yk, yv)) (l := q.drop (j + 1)) (o := O) (d := true) rfl he).symm.trans hR)
          clear hR
          go_wp2_with (first
            | (at_builtin
               refine wpList_append_lies _ rfl _ _ 27 rfl (w.heap.size + 1) 35 i0 _ 2 32 Try.underlying27 HI.out.1 HI.out.2.1 HI.out.2.2.1 HI.out.2.2.2 rfl (by decide) u5 O.length (prRow O) rfl (up_alloc (up_alloc P.out _) _).own ⟨wr.heap.size + 1, 0, none⟩ 1 1 [.string yk, .string yv] rfl rfl (pnews _ _ (by simp) _ _ _) (by simp [Value.oneCell']) (by omega) (by unfold maxLen; omega) (by omega) (by simp; omega) (wr.heap.size + 2) (by simp) ?_
               intro g cap w4 hown4 hgrow4 hwhere hlt4
               have HE := Lib.hid (And.intro hown4 hgrow4)
               clear hown4 hgrow4 hwhere hlt4))
          go_roundw
          case rel => exact ⟨j + 1, O ++ [(yk, yv)], true, by omega, HR.out, by simp <;> omega, by simp <;> omega, by go_num, rfl, up_grown (O' := O ++ [(yk, yv)]) (up_alloc (up_alloc P.out _) _) HE.out.2 (by rw [← prRow_snoc, List.length_append]; exact HE.out.1)⟩
          case measure => simp [intOf]; omega
        | false =>
          have hOj := hO2 rfl
          cases hl : lt yk pk with
          | true =>
            have hl2 : Op.bytesLess yk.toList pk.toList = true := hl
            have hl3 : Op.bytesLess pk.toList yk.toList = false := lt_anti hl
            have HR := Lib.hid (((rp_keep (p := (pk, pv)) (x := (yk, yv)) (l := q.drop (j + 1)) (o := O) (d := false) (by rw [show lt (yk, yv).1 (pk, pv).1 = true from hl]; rfl) he).trans (by first | (rw [show lt (yk, yv).1 (pk, pv).1 = true from hl]; done) | (rw [show lt (yk, yv).1 (pk, pv).1 = true from hl]; rfl))).symm.trans hR)
            clear hR
            go_wp2_with (first
              | (at_builtin
                 refine wpList_append_lies _ rfl _ _ 27 rfl (w.heap.size + 1) 35 i0 _ 2 32 Try.underlying27 HI.out.1 HI.out.2.1 HI.out.2.2.1 HI.out.2.2.2 rfl (by decide) u5 O.length (prRow O) rfl (up_alloc (up_alloc P.out _) _).own ⟨wr.heap.size + 1, 0, none⟩ 1 1 [.string yk, .string yv] rfl rfl (pnews _ _ (by simp) _ _ _) (by simp [Value.oneCell']) (by omega) (by unfold maxLen; omega) (by omega) (by simp; omega) (wr.heap.size + 2) (by simp) ?_
                 intro g cap w4 hown4 hgrow4 hwhere hlt4
                 have HE := Lib.hid (And.intro hown4 hgrow4)
                 clear hown4 hgrow4 hwhere hlt4))
            go_roundw
            case rel => exact ⟨j + 1, O ++ [(yk, yv)], false, by omega, HR.out, by simp <;> omega, by simp <;> omega, by go_num, rfl, up_grown (O' := O ++ [(yk, yv)]) (up_alloc (up_alloc P.out _) _) HE.out.2 (by rw [← prRow_snoc, List.length_append]; exact HE.out.1)⟩
            case measure => simp [intOf]; omega
          | false =>
            have hl2 : Op.bytesLess yk.toList pk.toList = false := hl
            have hl3 : Op.bytesLess pk.toList yk.toList = true := by
              cases hp : lt pk yk with
              | true => exact hp
              | false => exact absurd (lt_tri hl hp) he
            have HR := Lib.hid (((rp_new (p := (pk, pv)) (x := (yk, yv)) (l := q.drop (j + 1)) (o := O) (d := false) (by rw [show lt (yk, yv).1 (pk, pv).1 = false from hl]; rfl) he).trans (by first | (rw [show lt (yk, yv).1 (pk, pv).1 = false from hl]; done) | (rw [show lt (yk, yv).1 (pk, pv).1 = false from hl]; rfl))).symm.trans hR)
            clear hR
            go_wp2_with (first
              | (at_builtin
                 have Z := P4
                 refine wpList_append_lies _ rfl _ _ 27 rfl (w.heap.size + 1) 35 i0 _ 2 32 Try.underlying27 HI.out.1 HI.out.2.1 HI.out.2.2.1 HI.out.2.2.2 rfl (by decide) (.slice (some ⟨g, 0, none⟩) (O.length + 1) cap) (O.length + 1) (prRow (O ++ [(pk, pv)])) rfl (by have := (up_alloc P4.out (.cells #[.string yk, .string yv] 35)).own; rw [List.length_append] at this; exact this) ⟨w4.heap.size, 0, none⟩ 1 1 [.string yk, .string yv] rfl rfl (pnews _ _ (by simp) _ _ _) (by simp [Value.oneCell']) (by omega) (by unfold maxLen; omega) (by omega) (by simp; omega) (w4.heap.size + 1) (by simp) ?_
                 intro g5 cap5 w5 hown5 hgrow5 hwhere hlt5
                 have HE5 := Lib.hid (And.intro hown5 hgrow5)
                 clear hown5 hgrow5 hwhere hlt5)
              | (at_builtin
                 refine wpList_append_lies _ rfl _ _ 27 rfl (w.heap.size + 1) 35 i0 _ 2 32 Try.underlying27 HI.out.1 HI.out.2.1 HI.out.2.2.1 HI.out.2.2.2 rfl (by decide) u5 O.length (prRow O) rfl (up_alloc (up_alloc P.out _) _).own ⟨wr.heap.size + 1, 0, none⟩ 1 1 [.string pk, .string pv] rfl rfl (pnews _ _ (by simp) _ _ _) (by simp [Value.oneCell']) (by omega) (by unfold maxLen; omega) (by omega) (by simp; omega) (wr.heap.size + 2) (by simp) ?_
                 intro g cap w4 hown4 hgrow4 hwhere hlt4
                 have HE := Lib.hid (And.intro hown4 hgrow4)
                 have X4 := up_other P.out rfl hgrow4; obtain ⟨z0, z1⟩ := pcells X4; have P4 := Lib.hid (up_grown (O' := O ++ [(pk, pv)]) (up_alloc (up_alloc P.out _) _) hgrow4 (by rw [← prRow_snoc, List.length_append]; exact hown4)); obtain ⟨s0, s1⟩ := pcells (up_box P4.out); have hz4 := hgrow4.size; have hz5 : wr.heap.size < w4.heap.size := (Array.getElem?_eq_some_iff.1 X4).1
                 clear hown4 hgrow4 hwhere hlt4))
            go_roundw
            case rel => exact ⟨j + 1, O ++ [(pk, pv)] ++ [(yk, yv)], true, by omega, HR.out, by simp; omega, by simp, by go_num, rfl, up_grown (O' := O ++ [(pk, pv)] ++ [(yk, yv)]) (up_alloc P4.out _) HE5.out.2 (by rw [← prRow_snoc, List.length_append, List.length_append]; exact HE5.out.1)⟩
            case measure => simp [intOf]; omega
    · have hjl : j = q.length := by omega
      rw [hjl, List.drop_length] at hR
      cases b with
      | true =>
        have e : Hid (rpGo (pk, pv) q false [] = O) := hR.symm
        clear hR
        go_wp2
        go_ret
        exact ⟨_, rfl, by rw [e.out]; exact P.out.own, up_end P.out⟩
      | false =>
        have e : Hid (rpGo (pk, pv) q false [] = O ++ [(pk, pv)]) := hR.symm
        clear hR
        go_wp2_with (first
          | (at_builtin
             refine wpList_append_lies _ rfl _ _ 27 rfl (w.heap.size + 1) 35 i0 _ 2 32 Try.underlying27 HI.out.1 HI.out.2.1 HI.out.2.2.1 HI.out.2.2.2 rfl (by decide) u5 O.length (prRow O) rfl (up_alloc P.out _).own ⟨wr.heap.size, 0, none⟩ 1 1 [.string pk, .string pv] rfl rfl (pnews _ _ (by simp) _ _ _) (by simp [Value.oneCell']) (by omega) (by unfold maxLen; omega) (by omega) (by simp; omega) (wr.heap.size + 1) (by simp) ?_
             intro g cap w4 hown4 hgrow4 hwhere hlt4
             have HE := Lib.hid (And.intro hown4 hgrow4)
             clear hown4 hgrow4 hwhere hlt4))
        go_ret
        exact ⟨_, rfl, by rw [e.out, ← prRow_snoc, List.length_append]; exact HE.out.1, up_end (up_grown (O' := O ++ [(pk, pv)]) (up_alloc P.out _) HE.out.2 (by rw [← prRow_snoc, List.length_append]; exact HE.out.1))⟩
set_option maxRecDepth 100000 in
theorem rget_any {w : World} {v : Value} {q : List Pr} (h : PrAt w v q) (k : ByteArray) (hq : q.length ≤ 1000) :
    Calls Try.prog 10 #[v, .string k] w fun e w' => e = .returned (.tuple #[.string (getL q k), .bool (hasL q k)]) ∧ Below w.heap.size w w' := by
  obtain ⟨A, c, rfl, _, hc⟩ := h
  have HC := Lib.hid hc
  clear hc
  go_enter Try.func10, Try.ntmps10
  go_wp2
  go_loopw [10] (fun i wr => ∃ j : Nat, j ≤ q.length ∧ (∀ i (hi : i < q.length), i < j → decide (q[i].1 = k) = false) ∧ i = .int .i64 j ∧ Below w.heap.size w wr) (fun i _ => q.length - (intOf i).toNat)
  case atStart => exact ⟨0, by omega, fun i hi h => by omega, rfl, Below.refl _ _⟩
  case round =>
    obtain ⟨j, hj, hlo, rfl, hb⟩ := hrel
    by_cases hlt : j < q.length
    · obtain ⟨g0, rfl, hg0, hx⟩ := HC.out (by omega)
      obtain ⟨y0, y1⟩ := prat_cells (v := .pointer none) (c := 0) (fun j x hjx => (hb.cell (p := ⟨g0, j, none⟩) hg0).trans (hx j x hjx)) hlt
      clear hx
      by_cases he : q[j].1 = k
      · have hf := find_first (f := fun x => decide (x.1 = k)) hlt hlo (by simpa using he)
        have hget : getL q k = q[j].2 := by unfold getL; rw [hf]; rfl
        have hhas : hasL q k = true := by unfold hasL; rw [List.any_eq_true]; exact ⟨q[j], List.getElem_mem hlt, by simpa using he⟩
        have HG := Lib.hid (And.intro hget hhas)
        have HB := Lib.hid hb
        clear hlo hf hget hhas hb
        generalize q[j] = y at *
        obtain ⟨yk, yv⟩ := y
        simp only at y0 y1 he
        subst he
        go_wp2
        go_ret2
        exact ⟨by rw [HG.out.1, HG.out.2]; rfl, HB.out.alloc HB.out.size _⟩
      · have HL : Hid (∀ i (hi : i < q.length), i < j + 1 → decide (q[i].1 = k) = false) := fun i hi hij => by
          by_cases e : i = j
          · subst e; simpa using he
          · exact hlo i hi (by omega)
        have HB := Lib.hid hb
        clear hlo hb
        generalize q[j] = y at y0 y1 he
        obtain ⟨yk, yv⟩ := y
        simp only at y0 y1 he
        have hne : (yk.toList == k.toList) = false := by
          rw [Lib.toList_data, Lib.toList_data]
          have : ¬ yk.data.toList = k.data.toList := fun e => he (ba_ext e)
          simpa using this
        go_wp2
        go_roundw
        case rel => exact ⟨j + 1, by omega, HL.out, by go_num, HB.out.alloc HB.out.size _⟩
        case measure => simp [intOf]; omega
    · have hall : ∀ x ∈ q, decide (x.1 = k) = false := fun x hx => by
        obtain ⟨i, hi, rfl⟩ := List.getElem_of_mem hx
        exact hlo i hi (by omega)
      have hget : getL q k = ⟨#[]⟩ := by unfold getL; rw [find_none hall]; rfl
      have hhas : hasL q k = false := by unfold hasL; rw [List.any_eq_false]; exact fun x hx => by rw [hall x hx]; decide
      have HG := Lib.hid (And.intro hget hhas)
      replace hb := Lib.hid hb
      clear hlo hall hget hhas
      go_wp2
      go_ret2
      exact ⟨by rw [HG.out.1, HG.out.2]; rfl, hb.out⟩
set_option maxRecDepth 100000 in
theorem rbytes_any {w : World} {v : Value} {q : List Pr} (h : PrAt w v q) (hq : q.length ≤ 1000) (hsz : ∀ x ∈ q, x.1.size ≤ 300 ∧ x.2.size ≤ 300) :
    Calls Try.prog 14 #[v] w fun e w' => e = .returned (.int .i64 (total q : Nat)) ∧ Below w.heap.size w w' := by
  obtain ⟨A, c, rfl, _, hc⟩ := h
  have HC := Lib.hid hc
  have HS := Lib.hid hsz
  clear hc hsz
  go_enter Try.func14, Try.ntmps14
  go_wp2
  go_loopw [3, 8] (fun n i wr => ∃ (j m : Nat), j ≤ q.length ∧ m = total (q.take j) ∧ m ≤ 600 * j ∧ n = .int .i64 (m : Nat) ∧ i = .int .i64 j ∧ Below w.heap.size w wr) (fun _ i _ => q.length - (intOf i).toNat)
  case atStart => exact ⟨0, 0, by omega, rfl, by omega, rfl, rfl, Below.refl _ _⟩
  case round =>
    obtain ⟨j, m, hj, hm, hm6, rfl, rfl, hb⟩ := hrel
    by_cases hlt : j < q.length
    · obtain ⟨g0, rfl, hg0, hx⟩ := HC.out (by omega)
      obtain ⟨y0, y1⟩ := prat_cells (v := .pointer none) (c := 0) (fun j x hjx => (hb.cell (p := ⟨g0, j, none⟩) hg0).trans (hx j x hjx)) hlt
      have ht := total_snoc hlt
      rw [← hm] at ht
      obtain ⟨s1, s2⟩ := HS.out q[j] (List.getElem_mem hlt)
      clear hx hm
      generalize q[j] = y at *
      obtain ⟨yk, yv⟩ := y
      simp only at y0 y1 s1 s2 ht
      have HT := Lib.hid ht
      replace hb := Lib.hid hb
      clear ht
      go_wp2
      go_roundw
      case rel => exact ⟨j + 1, m + (yk.size + yv.size), by omega, HT.out.symm, by omega, by go_num, by go_num, hb.out.alloc hb.out.size _⟩
      case measure => simp [intOf]; omega
    · have hjl : j = q.length := by omega
      rw [hjl, List.take_length] at hm
      replace hm := Lib.hid hm
      replace hb := Lib.hid hb
      go_wp2
      go_ret
      exact ⟨by rw [← hm.out]; rfl, hb.out⟩
set_option maxRecDepth 100000 in
set_option maxHeartbeats 2000000 in
theorem rdown_any {w : World} {v : Value} {q : List Pr} (h : PrAt w v q) (k : ByteArray) (hq : q.length ≤ 1000) :
    Calls Try.prog 17 #[v, .string k] w (OutP w (dnL q k)) := by
  obtain ⟨A, c, rfl, _, hc⟩ := h
  have HC := Lib.hid hc
  clear hc
  obtain ⟨i0, hi, hz0, hz1, hz2⟩ := info_parts infoPair
  have HI := Lib.hid (And.intro hi (And.intro hz0 (And.intro hz1 hz2)))
  clear hi hz0 hz1 hz2
  go_enter Try.func17, Try.ntmps17
  go_wp2
  go_loopw [5, 6] (fun v i wr => ∃ (j : Nat) (O : List Pr), j ≤ q.length ∧ O = dnL (q.drop j) k ∧ O.length ≤ q.length - j ∧ i = .int .i64 ((j : Int) - 1) ∧ wr.ownsRow w.heap.size 35 2 v O.length (prRow O) ∧ Below w.heap.size w wr) (fun _ i _ => (intOf i + 1).toNat)
  case atStart => exact ⟨q.length, [], by omega, by rw [List.drop_length]; rfl, by simp, by first | rfl | exact val_int (by omega), World.ownsRow_nil _ _ _ _, Below.refl _ _⟩
  case round =>
    obtain ⟨j, O, hj, hO, hOl, rfl, hown, hb⟩ := hrel
    by_cases h0 : j = 0
    · subst h0
      rw [List.drop_zero] at hO
      subst hO
      replace hown := Lib.hid hown
      replace hb := Lib.hid hb
      go_wp2
      go_ret
      exact ⟨_, rfl, hown.out, hb.out⟩
    · obtain ⟨i, rfl⟩ : ∃ i, j = i + 1 := ⟨j - 1, by omega⟩
      have hlt : i < q.length := by omega
      have e1 : ((i + 1 : Nat) : Int) - 1 = (i : Int) := by omega
      rw [e1]
      clear e1
      obtain ⟨g0, rfl, hg0, hx⟩ := HC.out (by omega)
      have hs := dn_step hlt k
      obtain ⟨y0, y1⟩ := prat_cells (v := .pointer none) (c := 0) (fun j x hjx => (hb.cell (p := ⟨g0, j, none⟩) hg0).trans (hx j x hjx)) hlt
      rw [← hO] at hs
      clear hx hO
      generalize q[i] = y at *
      obtain ⟨yk, yv⟩ := y
      simp only at y0 y1 hs
      have HO := Lib.hid hown
      have HB := Lib.hid hb
      have hsz := hb.size
      clear hown hb
      by_cases hk : k = ⟨#[]⟩
      · subst hk
        rw [decide_eq_true rfl, Bool.true_or, if_pos rfl] at hs
        have HS := Lib.hid hs
        clear hs
        go_wp2_with (first
          | (at_builtin
             refine wpList_append_lies _ rfl _ _ 27 rfl w.heap.size 35 i0 _ 2 32 Try.underlying27 HI.out.1 HI.out.2.1 HI.out.2.2.1 HI.out.2.2.2 rfl (by decide) u5 O.length (prRow O) rfl (HO.out.alloc _) ⟨wr.heap.size, 0, none⟩ 1 1 [.string yk, .string yv] rfl rfl (pnews _ _ (by simp) _ _ _) (by simp [Value.oneCell']) (by omega) (by unfold maxLen; omega) (by omega) (by simp; omega) (wr.heap.size + 1) (by simp) ?_
             intro g cap w4 hown4 hgrow4 hwhere hlt4
             have HE := Lib.hid (And.intro hown4 hgrow4)
             clear hown4 hgrow4 hwhere hlt4))
        go_roundw
        case rel => exact ⟨i, O ++ [(yk, yv)], by omega, HS.out.symm, by simp; omega, by go_num, by rw [← prRow_snoc, List.length_append]; exact HE.out.1, pbelow_grown (HB.out.alloc HB.out.size _) (HO.out.alloc _) HE.out.2⟩
        case measure => simp [intOf] <;> omega
      · rw [decide_eq_false hk, Bool.false_or] at hs
        have hke : (k.toList == (⟨#[]⟩ : ByteArray).toList) = false := by
          rw [Lib.toList_data, Lib.toList_data]
          have : ¬ k.data.toList = (⟨#[]⟩ : ByteArray).data.toList := fun e => hk (ba_ext e)
          simpa using this
        have hke2 : (k.toList == []) = false := by
          rw [show (⟨#[]⟩ : ByteArray).toList = [] from ba []] at hke; exact hke
        cases hl : lt k yk with
        | true =>
          have hl2 : Op.bytesLess yk.toList k.toList = false := lt_anti hl
          have hne3 : (yk.toList == k.toList) = false := by
            rw [Lib.toList_data, Lib.toList_data]
            have : ¬ yk.data.toList = k.data.toList := fun e => by
              have e2 := ba_ext e
              subst e2
              rw [lt_irr] at hl; cases hl
            simpa using this
          rw [hl, if_neg (by decide), List.append_nil] at hs
          have HS := Lib.hid hs
          clear hs hl
          go_wp2
          go_roundw
          case rel => exact ⟨i, O, by omega, HS.out.symm, by omega, by go_num, HO.out, HB.out⟩
          case measure => simp [intOf] <;> omega
        | false =>
          have hle : Op.bytesLess yk.toList k.toList = true ∨ yk = k := by
            cases hp : lt yk k with
            | true => exact .inl hp
            | false => exact .inr (lt_tri hp hl)
          rw [hl, show (!false) = true from rfl, if_pos rfl] at hs
          have HS := Lib.hid hs
          clear hs
          have hor : (Op.bytesLess yk.toList k.toList || yk.toList == k.toList) = true := by
            rcases hle with h | h
            · rw [h]; rfl
            · subst h; simp
          clear hle hl
          go_wp2_with (first
            | (at_builtin
               refine wpList_append_lies _ rfl _ _ 27 rfl w.heap.size 35 i0 _ 2 32 Try.underlying27 HI.out.1 HI.out.2.1 HI.out.2.2.1 HI.out.2.2.2 rfl (by decide) u5 O.length (prRow O) rfl (HO.out.alloc _) ⟨wr.heap.size, 0, none⟩ 1 1 [.string yk, .string yv] rfl rfl (pnews _ _ (by simp) _ _ _) (by simp [Value.oneCell']) (by omega) (by unfold maxLen; omega) (by omega) (by simp; omega) (wr.heap.size + 1) (by simp) ?_
               intro g cap w4 hown4 hgrow4 hwhere hlt4
               have HE := Lib.hid (And.intro hown4 hgrow4)
               clear hown4 hgrow4 hwhere hlt4))
          go_roundw
          case rel => exact ⟨i, O ++ [(yk, yv)], by omega, HS.out.symm, by simp; omega, by go_num, by rw [← prRow_snoc, List.length_append]; exact HE.out.1, pbelow_grown (HB.out.alloc HB.out.size _) (HO.out.alloc _) HE.out.2⟩
          case measure => simp [intOf] <;> omega
end Go.Proofs.Ytnnjbofkkaonoaa.Sk
