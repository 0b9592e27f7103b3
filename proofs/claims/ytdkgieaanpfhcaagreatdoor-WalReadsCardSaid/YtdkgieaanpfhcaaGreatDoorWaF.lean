/-
  The document's own reading of a log, walked: Read. Conditions: as each theorem states.
-/
import Derived.Test.YtdkgieaanpfhcaaGreatDoorWaE
import Derived.Test.YtdkgieaanpfhcaaGreatDoorWaC
import Derived.Test.YtdkgieaanpfhcaaGreatDoorFrV
namespace Go.Proofs.YtdkgieaanpfhcaaGreatDoor.Wa
open Go.RowKit
open Go.Proofs.YtdkgieaanpfhcaaGreatDoor
open Vi Ba

theorem BIn.push {b : Nat} {t : TypeId} {W W2 : World} {v v2 : Value} {xs : List BX} {x : BX} (h : BIn b t W v xs) (hx : x.lies W) (hg : W.grownBy W2 v.ownBlock) (ho : W2.ownsRow b t 2 v2 (xs.length + 1) (bCells xs ++ x.cells)) (ht : t ≠ 63) : BIn b t W2 v2 (xs ++ [x]) := by
  have k1 : KT [63] W W2 := KT.own h.own hg (by simpa using ht)
  refine ⟨by rw [bCells_snoc, List.length_append]; exact ho, fun y hy => k1.row (by decide) ?_⟩
  rcases List.mem_append.1 hy with hy | hy
  · exact h.lies y hy
  · rw [List.mem_singleton.1 hy]; exact hx
theorem infoB16 : (Tryz.prog.info? 68).map (fun i => (i.zero, i.size, i.bytes)) = some (some (.agg #[.int .u64 0, .slice none 0 0]), 2, 32) := by kernel_rfl
theorem news2k (W : World) (k : Nat) (hk : k = W.heap.size) (x0 x1 : Value) (t : TypeId) : ∀ j y, [x0, x1][j]? = some y → (W.alloc (.cells #[x0, x1] t)).cell? ((⟨k, 0, none⟩ : Addr).add j) = some y := by
  subst hk
  exact World.news_of_block (heap_alloc_new W _)
abbrev K3 : List TypeId := [68, 63, 65]
/-- reading under way -/
structure RQ (w : World) (rs : List RecX) (rv vv : Value) (k nn : Nat) (xs : List BX) (W : World) : Prop where
  row : W.ownsRow w.heap.size 65 2 rv rs.length (rCells rs)
  out : BIn w.heap.size 68 W vv xs
  told : tell 0 rs = xs.map Prod.fst ++ tell nn (rs.drop k)
  below : Below w.heap.size w W
section
variable {w : World} {rs : List RecX} {rv vv : Value} {k nn : Nat} {xs : List BX} {W W' : World}
theorem RQ.on (h : RQ w rs rv vv k nn xs W) (hb : Below W.heap.size W W') : RQ w rs rv vv k nn xs W' :=
  have kt : KT K3 W W' := KT.below hb
  ⟨kt.row (by decide) h.row, h.out.kept kt (by decide) (by decide), h.told, h.below.trans (hb.mono h.below.size)⟩
theorem RQ.put {v2 : Value} {b : Bat} {A : Option Addr} {c n2 : Nat} (h : RQ w rs rv vv k nn xs W) (hx : BX.lies W (b, A, c)) (hg : W.grownBy W' vv.ownBlock) (ho : W'.ownsRow w.heap.size 68 2 v2 (xs.length + 1) (bCells xs ++ BX.cells (b, A, c)))
    (ht : tell nn (rs.drop k) = b :: tell n2 (rs.drop (k + 1))) : RQ w rs rv v2 (k + 1) n2 (xs ++ [(b, A, c)]) W' :=
  ⟨(KT.own (ts := [65]) h.out.own hg (by decide)).row (by decide) h.row, h.out.push hx hg ho (by decide), by rw [h.told, ht]; simp, below_grown_row h.below hg (fun r e => (h.out.own.lt r e).1) h.below.size⟩
end
def ReQ (w : World) (rs : List RecX) (rv : Value) (vv nv iv : Value) (W : World) : Prop :=
  ∃ (k nn : Nat) (xs : List BX), iv = .int .i64 k ∧ nv = .int .u64 nn ∧ k ≤ rs.length ∧ nn ≤ 72057594037929935 ∧ xs.length ≤ k ∧ RQ w rs rv vv k nn xs W
def RdPostB (w : World) (L : List UInt8) (e : Ending) (w' : World) : Prop :=
  ∃ v xs, e = .returned v ∧ xs.map Prod.fst = tell 0 (recs L 0) ∧ BIn w.heap.size 68 w' v xs ∧ Below w.heap.size w w'
set_option maxRecDepth 100000 in
set_option maxHeartbeats 4000000 in
theorem rread_any (L : List UInt8) (hL : L.length ≤ 1000000) (w : World) :
    Calls Tryz.prog 7 #[.string (bs L)] w (RdPostB w L) := by
  obtain ⟨i0, hi, hz0, hz1, hz2⟩ := info_parts infoB16
  have HI := Lib.hid (And.intro hi (And.intro hz0 (And.intro hz1 hz2)))
  clear hi hz0 hz1 hz2
  have HRL := Lib.hid (recs_len L _ 0 (Nat.le_refl _))
  have hfew : (recs L 0).length ≤ 1000000 := by have := recs_few L _ 0 (Nat.le_refl _); omega
  have HC := Lib.hid (rrecs_any L hL w)
  unfold RfP at HC
  unfold RdPostB
  generalize recs L 0 = rs at *
  go_enter Tryz.func7, Tryz.ntmps7
  go_wp2_with (first
    | (go_at_call 22; (with_reducible refine HC.out.mono ?_); rintro e w1 ⟨⟨rv, rfl, hrow⟩, hb1⟩
       obtain ⟨RA, rc, rfl⟩ := own_slice hrow
       have H1 := Lib.hid (And.intro hrow hb1); clear hrow hb1))
  go_loopw [3, 4, 13] (ReQ w rs (.slice RA rs.length rc)) (fun _ _ iv _ => rs.length - (intOf iv).toNat)
  case atStart => exact ⟨0, 0, [], rfl, rfl, by omega, by omega, by simp, ⟨H1.out.1, BIn.nil _ _ _, rfl, H1.out.2⟩⟩
  case round =>
    obtain ⟨k, nn, xs, rfl, rfl, hk, hnn, hxk, HQ⟩ := hrel
    obtain ⟨A1, c1, rfl⟩ := HQ.out.slice
    have hsz := HQ.below.size
    by_cases hlt : k < rs.length
    · have hx := HRL.out rs[k] (List.getElem_mem hlt)
      have hcl : ∃ g, RA = some ⟨g, 0, none⟩ ∧ wr.cell? ⟨g, k * 2, none⟩ = some (.string (bs rs[k].1)) ∧ wr.cell? ⟨g, k * 2 + 1, none⟩ = some (.int .i64 (rs[k].2 : Nat)) := by
        rcases HQ.row.2 with ⟨e, h0⟩ | ⟨g, cap, cur, e, _, hg, _⟩
        · omega
        · injection e with e _ _
          subst e
          have h1 := HQ.row.cells (g := g) rfl (k * 2) _ (rCells_at rs k hlt).1
          have h2 := HQ.row.cells (g := g) rfl (k * 2 + 1) _ (rCells_at rs k hlt).2
          rw [add_flat] at h1 h2
          exact ⟨g, rfl, h1, h2⟩
      obtain ⟨g, rfl, hc0, hc1⟩ := hcl
      have htl : tell nn (rs.drop k) = if (parse rs[k].1).2.2 = 0 ∧ nn ≤ (parse rs[k].1).2.1 then ⟨(parse rs[k].1).2.1, (parse rs[k].1).1⟩ :: tell ((parse rs[k].1).2.1 + (parse rs[k].1).1.length) (rs.drop (k + 1)) else [] := by
        rw [List.drop_eq_getElem_cons hlt]; rfl
      have HPA : Hid (∀ W, Calls Tryz.prog 28 #[.string (bs rs[k].1)] W (QPost W (bs rs[k].1))) := fun W => qparse_any (bs rs[k].1) (by rw [bs_size]; omega) W
      unfold QPost at HPA
      rw [bs_toList] at HPA
      have hbd := parse_bd (L := rs[k].1)
      generalize rs[k] = x at *
      generalize parse x.1 = p at *
      obtain ⟨l, q, ec⟩ := p
      simp only at htl hbd HPA
      have HH := Lib.hid HQ
      clear HQ
      by_cases hec : ec = 0
      · subst hec
        obtain ⟨hl2, hq2⟩ := hbd rfl
        clear hbd
        by_cases hqn : nn ≤ q
        · have htl2 := Lib.hid (htl.trans (if_pos ⟨rfl, hqn⟩))
          clear htl
          have hw1 : IntKind.u64.wrap ((q : Int) + (l.length : Int)) = ((q + l.length : Nat) : Int) := by rw [IntKind.wrap_u64]; omega
          have hw2 : IntKind.u64.wrap (l.length : Int) = (l.length : Int) := by rw [IntKind.wrap_u64]; omega
          go_wp2_with (first
            | (go_at_call 28; (with_reducible refine (HPA.out _).mono ?_); rintro e w3 ⟨v3, rfl, hrow3, hb3⟩
               obtain ⟨A3, c3, rfl⟩ := own_slice hrow3
               have hbw : Below wr.heap.size wr w3 := ((Below.refl _ wr).alloc (Nat.le_refl _) _).trans (hb3.mono (by simp))
               have H3 := Lib.hid (And.intro (HH.out.on hbw) (owns_base (B2 := 0) hrow3 (Nat.zero_le _)))
               have hz3 := hbw.size
               clear hrow3 hb3 hbw)
            | (at_builtin
               refine wpList_append_own _ rfl (.tmp 32) (.tmp 36) 23 rfl w.heap.size 68 i0 _ 2 32 Tryz.underlying23 HI.out.1 HI.out.2.1 HI.out.2.2.1 HI.out.2.2.2 rfl (by decide) (.slice A1 xs.length c1) xs.length (bCells xs) rfl (H3.out.1.out.own.alloc _) ⟨_, 0, none⟩ 1 1 (BX.cells (⟨q, l⟩, A3, c3)) rfl rfl (news2k _ _ rfl _ _ _) (by simp [BX.cells, Value.oneCell']) (by unfold maxLen; omega) (by omega) (by have := H3.out.1.below.size; rw [World.size_alloc]; omega) ?_
               intro v9 w9 hown hgr _
               have hal : Below w3.heap.size w3 (w3.alloc (.cells #[.int .u64 q, .slice A3 l.length c3] 68)) := (Below.refl _ _).alloc (Nat.le_refl _) _
               have Q9 := Lib.hid ((H3.out.1.on hal).put (b := ⟨q, l⟩) (A := A3) (c := c3) ((KT.below (ts := [63]) hal).row (by decide) H3.out.2) hgr hown htl2.out)
               clear hown hgr hal))
          go_roundw
          case rel => exact ⟨k + 1, q + l.length, xs ++ [(⟨q, l⟩, A3, c3)], by go_num, by first | rfl | (rw [hw1]), by omega, by omega, by rw [List.length_append]; simp; omega, Q9.out⟩
          case measure => simp [intOf]; omega
        · have htl2 := Lib.hid (htl.trans (if_neg (fun h => hqn h.2)))
          clear htl
          go_wp2_with (first
            | (go_at_call 28; (with_reducible refine (HPA.out _).mono ?_); rintro e w3 ⟨v3, rfl, hrow3, hb3⟩
               obtain ⟨A3, c3, rfl⟩ := own_slice hrow3
               have hbw : Below wr.heap.size wr w3 := ((Below.refl _ wr).alloc (Nat.le_refl _) _).trans (hb3.mono (by simp))
               have H3 := Lib.hid (HH.out.on hbw)
               clear hrow3 hb3 hbw))
          go_ret
          exact ⟨_, xs, rfl, by rw [H3.out.told, htl2.out, List.append_nil], H3.out.out, H3.out.below⟩
      · have htl2 := Lib.hid (htl.trans (if_neg (fun h => hec h.1)))
        have z1 : (ec == 0) = false := by simpa using hec
        have z2 : (ec != 0) = true := by simp [bne, z1]
        clear htl hec hbd
        go_wp2_with (first
          | (go_at_call 28; (with_reducible refine (HPA.out _).mono ?_); rintro e w3 ⟨v3, rfl, hrow3, hb3⟩
             obtain ⟨A3, c3, rfl⟩ := own_slice hrow3
             have hbw : Below wr.heap.size wr w3 := ((Below.refl _ wr).alloc (Nat.le_refl _) _).trans (hb3.mono (by simp))
             have H3 := Lib.hid (HH.out.on hbw)
             clear hrow3 hb3 hbw))
        go_ret
        exact ⟨_, xs, rfl, by rw [H3.out.told, htl2.out, List.append_nil], H3.out.out, H3.out.below⟩
    · obtain rfl : k = rs.length := by omega
      go_wp2
      go_ret
      exact ⟨_, xs, rfl, by rw [HQ.told, List.drop_of_length_le (Nat.le_refl _), tell_nil, List.append_nil], HQ.out, HQ.below⟩
end Go.Proofs.YtdkgieaanpfhcaaGreatDoor.Wa
