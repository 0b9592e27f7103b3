/-
  The Go text of the laws that tells where a record's pieces begin, walked. Conditions: as each theorem states.
-/
import Derived.Test.YtindchneeflgfaaFrTurn
import Derived.Test.YtindchneeflgfaaFrK
import Derived.Test.YtindchneeflgfaaFrF
namespace Go.Proofs.Ytindchneeflgfaa
open Go.RowKit
open Vi

/-- what the walk knows at a place: a record's rest lies there, or nothing -/
def PcJ (w : World) (L : List UInt8) (S : List Nat) (at_ out : Value) (wr : World) : Prop :=
  ∃ (x : Nat) (so : List Nat), at_ = .int .i64 x ∧ wr.ownsRow w.heap.size 3 1 out so.length (eCells so) ∧ Below w.heap.size w wr ∧ so.length ≤ x ∧
    ((x = L.length ∧ so = S) ∨ ∃ (P r : List UInt8) (b : Bool), L = P ++ layAt P.length b r ∧ (x = P.length ∨ x = P.length + gapOf P.length) ∧ so ++ starts P.length r = S)
theorem layAt_bytes (P r : List UInt8) (b : Bool) : ∃ (k : Nat) (s R : List UInt8), layAt P.length b r = List.replicate (gapOf P.length) 0 ++ (pce k s ++ R) ∧ s.length ≤ roomOf P.length ∧
    ((R = [] ∧ starts P.length r = [P.length + gapOf P.length]) ∨
      (s.length = roomOf P.length ∧ ∃ r', R = layAt (P.length + gapOf P.length + (7 + s.length)) true r' ∧ starts P.length r = (P.length + gapOf P.length) :: starts (P.length + gapOf P.length + (7 + s.length)) r')) := by
  by_cases hr : r.length ≤ roomOf P.length
  · exact ⟨kindOf b true, r, [], by rw [layAt_last hr, List.append_nil], hr, .inl ⟨rfl, starts_last hr⟩⟩
  · have htl : (r.take (roomOf P.length)).length = roomOf P.length := by rw [List.length_take]; omega
    refine ⟨kindOf b false, r.take (roomOf P.length), _, by rw [layAt_more (by omega), List.append_assoc], by omega, .inr ⟨htl, r.drop (roomOf P.length), ?_, ?_⟩⟩
    · congr 1
      simp [pce_len]; omega
    · rw [starts_more (by omega), htl]
      rw [show P.length + gapOf P.length + 7 + roomOf P.length = P.length + gapOf P.length + (7 + roomOf P.length) by omega]
theorem at_pce {Q : List UInt8} {k : Nat} {s R : List UInt8} (hs : s.length ≤ 505) : ∃ c d : UInt8, c.toNat + d.toNat * 256 = s.length ∧ (Q ++ (pce k s ++ R))[Q.length + 4]? = some c ∧ (Q ++ (pce k s ++ R))[Q.length + 5]? = some d := by
  obtain ⟨s0, s1, s2, s3, _, hp, _⟩ := pce_form k s
  refine ⟨_, _, lens_eq hs, ?_, ?_⟩
  · rw [hp, List.getElem?_append_right (by omega)]; simp
  · rw [hp, List.getElem?_append_right (by omega)]; simp
set_option maxHeartbeats 2000000 in
theorem pieces_any (L : List UInt8) (hL : L.length ≤ 1000000) (P0 r0 : List UInt8) (h0 : L = P0 ++ lay P0.length r0) (w : World) :
    Calls Try.prog 14 #[.string (bs L), .int .i64 P0.length] w fun e w' => (∃ v, e = .returned v ∧ w'.ownsRow w.heap.size 3 1 v (starts P0.length r0).length (eCells (starts P0.length r0))) ∧ Below w.heap.size w w' := by
  obtain ⟨i0, hi, hz0, hz1, hz2⟩ := info_parts infoInt
  have HI := Lib.hid (And.intro hi (And.intro hz0 (And.intro hz1 hz2)))
  clear hi hz0 hz1 hz2
  have hbz := bs_size
  have H0 := Lib.hid h0
  clear h0
  go_enter Try.func14, Try.ntmps14
  go_wp2
  go_loopw [1, 5] (PcJ w L (starts P0.length r0)) (fun a _ _ => L.length + 1 - (intOf a).toNat)
  case atStart => exact ⟨P0.length, [], rfl, World.ownsRow_nil _ _ _ _, Below.refl _ _, by simp, .inr ⟨P0, r0, false, by rw [H0.out, lay_layAt], .inl rfl, rfl⟩⟩
  case round =>
    obtain ⟨x, so, rfl, hown, hb, hsx, hcase⟩ := hrel
    have HO := Lib.hid hown
    have HB := Lib.hid hb
    have hsz := hb.size
    clear hown hb
    by_cases hx : x < L.length
    · rcases hcase with ⟨h, _⟩ | ⟨P, r, b, hLe, hxx, hst⟩
      · omega
      · obtain ⟨k, s, R, hlay, hsl, hnext⟩ := layAt_bytes P r b
        have hrm := roomOf_le P.length
        have hgp := gap_iff P.length
        have hgr := gap_room P.length
        by_cases hgx : x = P.length + gapOf P.length
        · have hx7 : ¬ (512 - (x : Int) % 512 < 7) := by rw [← hgx] at hgr; omega
          have hLb : L = (P ++ List.replicate (gapOf P.length) 0) ++ (pce k s ++ R) := by rw [hLe, hlay, List.append_assoc]
          have hQl : (P ++ List.replicate (gapOf P.length) (0 : UInt8)).length = x := by simp [hgx]
          obtain ⟨c, d, hcd, hc4, hd5⟩ := at_pce (Q := P ++ List.replicate (gapOf P.length) 0) (k := k) (s := s) (R := R) (by omega)
          rw [← hLb, hQl] at hc4 hd5
          have hLl : L.length = x + (7 + s.length) + R.length := by rw [hLb, List.length_append, hQl, List.length_append, pce_len]; omega
          have y4 : ∀ h, (bs L)[x + 4]'h = c := fun h => by
            have : L[x + 4]'(by rw [bs_size] at h; exact h) = c := by rw [List.getElem?_eq_some_iff] at hc4; exact hc4.2
            exact this
          have y5 : ∀ h, (bs L)[x + 5]'h = d := fun h => by
            have : L[x + 5]'(by rw [bs_size] at h; exact h) = d := by rw [List.getElem?_eq_some_iff] at hd5; exact hd5.2
            exact this
          have hcl := c.toNat_lt
          have hdl := d.toNat_lt
          have hx5 : x + 7 ≤ L.length := by omega
          have j1 : (x : Int) < (L.length : Int) := by omega
          have j2 : (x : Int) + 4 < (L.length : Int) := by omega
          have j3 : (x : Int) + 5 < (L.length : Int) := by omega
          have HLb := Lib.hid hLb
          have HQl := Lib.hid hQl
          have HLl := Lib.hid hLl
          have Hcd := Lib.hid hcd
          have Hnx := Lib.hid hnext
          have Hst := Lib.hid hst
          have Hgx := Lib.hid hgx
          clear hc4 hd5 hgp hLe hlay hnext hst hgx hLb hQl hLl hcd hgr hxx
          go_wp2_with (first
            | (at_builtin
               refine wpList_append_lies _ rfl _ _ 36 rfl w.heap.size 3 i0 _ 1 8 Try.underlying36 HI.out.1 HI.out.2.1 HI.out.2.2.1 HI.out.2.2.2 rfl (by decide) u5 so.length (eCells so) rfl (HO.out.alloc _) ⟨wr.heap.size, 0, none⟩ 1 1 [.int .i64 (x : Int)] rfl rfl (news_one wr _ _) (by simp [Value.oneCell']) (by omega) (by unfold maxLen; omega) (by omega) (by simp; omega) (wr.heap.size + 1) (by simp) ?_
               intro g cap w4 hown4 hgrow4 hwhere hlt4
               have HE := Lib.hid (And.intro hown4 hgrow4)
               clear hown4 hgrow4 hwhere hlt4))
          have v1 : IntKind.i64.wrap ((x : Int) + 4) = x + 4 := IntWalk.i64_in _ (by omega)
          have v2 : IntKind.i64.wrap ((x : Int) + 5) = x + 5 := IntWalk.i64_in _ (by omega)
          have v3 : IntKind.i64.wrap (c.toNat : Int) = c.toNat := IntWalk.i64_in _ (by omega)
          have v4 : IntKind.i64.wrap (d.toNat : Int) = d.toNat := IntWalk.i64_in _ (by omega)
          have v5 : IntKind.i64.wrap (7 + (c.toNat : Int)) = 7 + c.toNat := IntWalk.i64_in _ (by omega)
          have v6 : IntKind.i64.wrap (256 * (d.toNat : Int)) = 256 * d.toNat := IntWalk.i64_in _ (by omega)
          have v7 : IntKind.i64.wrap (7 + (c.toNat : Int) + 256 * (d.toNat : Int)) = 7 + c.toNat + 256 * d.toNat := IntWalk.i64_in _ (by omega)
          have v8 : IntKind.i64.wrap ((x : Int) + (7 + (c.toNat : Int) + 256 * (d.toNat : Int))) = x + (7 + c.toNat + 256 * d.toNat) := IntWalk.i64_in _ (by omega)
          have j4 : (0 : Int) ≤ (x : Int) + 4 := by omega
          have j5 : (0 : Int) ≤ (x : Int) + 5 := by omega
          have j6 : ((x : Int) + 4).toNat = x + 4 := by omega
          have j7 : ((x : Int) + 5).toNat = x + 5 := by omega
          go_region
          go_wp2
          have hP' : (P ++ List.replicate (gapOf P.length) 0 ++ pce k s).length = x + (7 + s.length) := by rw [List.length_append, HQl.out, pce_len]
          refine ⟨⟨x + (7 + s.length), so ++ [x], val_int (by have := Hcd.out; omega), ?_, (below_own (HB.out.alloc hsz _) (HO.out.alloc _) HE.out.2).trans (below_drew _ _), by simp; omega, ?_⟩, by have := Hcd.out; simp [intOf]; omega⟩
          · rw [List.length_append, eCells_snoc]; exact HE.out.1
          · rcases Hnx.out with ⟨hR, hs1⟩ | ⟨hsr, r', hR, hs1⟩
            · refine .inl ⟨by rw [HLl.out, hR]; rfl, ?_⟩
              rw [← Hst.out, hs1, ← Hgx.out]
            · refine .inr ⟨P ++ List.replicate (gapOf P.length) 0 ++ pce k s, r', true, ?_, .inl hP'.symm, ?_⟩
              · rw [hP', HLb.out, hR, ← Hgx.out]; simp
              · rw [← Hst.out, hs1, hP', ← Hgx.out]; simp
        · have hgp0 : 0 < gapOf P.length := by omega
          obtain rfl : x = P.length := by omega
          have hx7 : 512 - (P.length : Int) % 512 < 7 := by
            have := (gap_iff P.length 0 (by omega)).2 hgp0
            simp at this; omega
          have hgf : (512 - (P.length : Int) % 512) = (gapOf P.length : Nat) := by
            rw [gap_few (a := P.length) (by omega)]; omega
          have HLe := Lib.hid hLe
          have Hst := Lib.hid hst
          have j1 : (P.length : Int) < (L.length : Int) := by omega
          have HB2 := HB
          clear hgp hLe hlay hnext hst hgr
          go_wp2
          exact ⟨⟨P.length + gapOf P.length, so, val_int (by omega), HO.out, HB2.out, by omega, .inr ⟨P, r, b, HLe.out, .inr rfl, Hst.out⟩⟩, by simp [intOf]; omega⟩
    · go_wp2
      go_ret
      rcases hcase with ⟨h, rfl⟩ | ⟨P, r, b, hLe, hxx, hst⟩
      · exact ⟨⟨_, rfl, HO.out⟩, HB.out⟩
      · exfalso
        have := layAt_len_pos P.length b r
        obtain ⟨k, s, R, hlay, hsl, _⟩ := layAt_bytes P r b
        rw [hLe, hlay] at hx
        simp [pce_len] at hx
        omega
end Go.Proofs.Ytindchneeflgfaa
