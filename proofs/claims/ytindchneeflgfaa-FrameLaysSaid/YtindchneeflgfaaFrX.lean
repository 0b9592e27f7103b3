/-
  The document's text that lays a record, walked. Conditions: as each theorem states.
-/
import Derived.Test.YtindchneeflgfaaFrD
import Derived.Deep.DeepCutAuto
import Derived.Deep.CutRange
import Derived.Deep.DrawnRows
namespace Go.Proofs.Ytindchneeflgfaa
open Go.RowKit
open Vi
attribute [local go_sem ↓] Go.wp_at_zero Go.wp_at_succ

theorem ret_lay {a b : List UInt8} (h : a = b) : Ending.returned (.string (bs a)) = .returned (.string (bs b)) := by rw [h]
theorem pce_eq (k : Nat) (s : List UInt8) (o : List UInt8) : o ++ (little 4 (Crc.mask (Crc.ofL (UInt8.ofNat k :: s))) ++ (little 2 s.length ++ ([UInt8.ofNat k] ++ s))) = o ++ pce k s := by
  unfold pce
  simp [little_succ, little_zero]
/-- What is left of a record's laying: what stands there, begun or not, and what comes. -/
def LyJ (w : World) (p : Nat) (r0 : List UInt8) (r o b : Value) (wr : World) : Prop :=
  ∃ (rl l : List UInt8) (bg : Bool), r = .string (bs rl) ∧ o = .string (bs l) ∧ b = .bool bg ∧ l ++ layAt (p + l.length) (!bg) rl = lay p r0 ∧ rl.length ≤ 3000 ∧ Below w.heap.size w wr
set_option maxRecDepth 100000 in
set_option maxHeartbeats 4000000 in
theorem refLay_go (x : Int) (p : Nat) (hxp : (x = p ∧ 0 ≤ x) ∨ (p = 0 ∧ x < 0)) (hp : p ≤ 1073741824) (r0 : List UInt8) (hr : r0.length ≤ 3000) (w : World) :
    Calls Try.prog 8 #[.int .i64 x, .string (bs r0)] w fun e w' => e = .returned (.string (bs (lay p r0))) ∧ Below w.heap.size w w' := by
  have HT : Hid ((lay p r0).length ≤ 10000) := by
    have h := lay_len p r0
    have hg := gapOf_le p
    rw [Hid, h]; omega
  have hbz := bs_size
  have hba := bs_append
  have hbt := bs_take
  have hbd := bs_drop
  have h0 : ({ data := #[0] } : ByteArray) = bs [0] := rfl
  have he0 : ({ data := #[] } : ByteArray) = bs [] := rfl
  have hlt := little_len
  go_enter Try.func8, Try.ntmps8
  go_upto_if 10 with fail
  go_cut [0] (fun s0 wx => s0 = .int .i64 (p : Int) ∧ w = wx)
  case first =>
    rcases hxp with ⟨h1, h2⟩ | ⟨h1, h2⟩
    · have H1 := Lib.hid h1
      clear h1
      go_wp2
      go_meet
      case rel => exact ⟨by rw [H1.out], rfl⟩
    · have H1 := Lib.hid h1
      clear h1
      go_wp2
      go_meet
      case rel => exact ⟨by rw [H1.out]; rfl, rfl⟩
  case rest =>
  obtain ⟨rfl, rfl⟩ := hcut
  clear hxp
  go_wp2
  go_loopw [1, 5, 6] (fun r o b wr => LyJ w p r0 r o b wr) (fun _ o _ _ => 10000 - strLen o)
  case atStart => exact ⟨r0, [], true, rfl, rfl, rfl, (lay_layAt _ _).symm, hr, Below.refl _ _⟩
  case round =>
    obtain ⟨rl, l, bg, rfl, rfl, rfl, he, hrl, hb⟩ := hrel
    have HE := Lib.hid he
    have HB := Lib.hid hb
    clear he hb
    have hll : l.length ≤ 10000 := by have h1 := HT.out; rw [← HE.out, List.length_append] at h1; omega
    have hg := gapOf_le (p + l.length)
    have hro := roomOf_le (p + l.length)
    go_wp2
    go_loop [5] (fun o => ∃ j : Nat, j ≤ gapOf (p + l.length) ∧ o = .string (bs (l ++ List.replicate j 0))) (fun o => 20000 - strLen o)
    case atStart => exact ⟨0, by omega, by simp⟩
    case round =>
      obtain ⟨j, hj, rfl⟩ := hrel
      have hgi := gap_iff (p + l.length) j hj
      by_cases hjg : j < gapOf (p + l.length)
      · have hm7 : ((512 - (p + l.length + j) % 512 : Nat) : Int) < 7 := by have := hgi.2 hjg; omega
        clear hgi
        go_wp2_with (first | (go_at_call 21; refine (refRoom_at (p := p + l.length + j) (by omega) (by omega) _).mono ?_; rintro e w3 ⟨rfl, rfl⟩))
        go_round
        case rel => exact ⟨j + 1, by omega, by rw [← rp_snoc, List.append_assoc]⟩
        case measure => simp [strLen, bs_size]; omega
      · obtain rfl : j = gapOf (p + l.length) := by omega
        have hq1 : (0 : Int) ≤ (roomOf (p + l.length) : Int) := by omega
        clear hgi
        obtain ⟨n, hn⟩ : ∃ n, n = min (roomOf (p + l.length)) rl.length := ⟨_, rfl⟩
        obtain ⟨la, hla⟩ : ∃ la, la = decide (rl.length ≤ roomOf (p + l.length)) := ⟨_, rfl⟩
        obtain ⟨kd, hkd⟩ : ∃ kd, kd = kindOf (!bg) la := ⟨_, rfl⟩
        have HN := Lib.hid hn
        have HLA := Lib.hid hla
        have HKD := Lib.hid hkd
        have hkl := kindOf_lt (!bg) la
        rw [← hkd] at hkl
        clear hn hla hkd
        obtain ⟨l2, hl2⟩ : ∃ l2, l2 = l ++ List.replicate (gapOf (p + l.length)) (0 : UInt8) := ⟨_, rfl⟩
        have HL2 := Lib.hid hl2
        have hl2l : l2.length ≤ 10006 := by rw [hl2]; simp; omega
        have RM : Hid (∀ W, Calls Try.prog 21 #[.int .i64 ((p : Int) + (l2.length : Int))] W fun e w' => e = .returned (.int .i64 ((roomOf (p + l.length) : Int) + 7)) ∧ W = w') := fun W => refRoom_gap (p + l.length) (by omega) (by rw [hl2]; simp; omega) W
        rw [← hl2]
        clear hl2
        generalize hrm : roomOf (p + l.length) = rm at *
        go_upto_if 28 with (first | (go_at_call 21; (with_reducible refine (RM.out _).mono ?_); rintro e w3 ⟨rfl, rfl⟩))
        have HRM := Lib.hid hrm
        clear hrm
        go_cut [7] from 11 to 71 (fun s7 wx => s7 = .int .i64 (n : Int) ∧ wx = wr)
        case first =>
          have hN := HN.out
          by_cases hc : rl.length < rm
          · have hnr : n = rl.length := by omega
            have HNR := Lib.hid hnr
            clear hN hnr
            go_wp2
            go_meet
            case rel => exact ⟨by rw [HNR.out], rfl⟩
          · have hnr : n = rm := by omega
            have HNR := Lib.hid hnr
            clear hN hnr
            go_wp2
            go_meet
            case rel => exact ⟨by rw [HNR.out], rfl⟩
        case rest =>
          obtain ⟨rfl, rfl⟩ := hcut
          have hnl : n ≤ rl.length := by have := HN.out; omega
          have hn5 : n ≤ 505 := by have := HN.out; omega
          have hnla : ((n : Int) == (rl.length : Int)) = la := by
            rw [HLA.out, Bool.eq_iff_iff, beq_iff_eq, decide_eq_true_iff]
            have := HN.out
            omega
          have hw1 : IntKind.u64.wrap (n : Int) = n := by rw [IntKind.wrap_u64]; omega
          go_upto_region 11 with fail
          go_cut [37] from 11 to 71 (fun s37 wx => s37 = .bool (bg && la) ∧ wx = wc)
          case first =>
            cases bg <;> cases la
            all_goals
              go_wp2
              go_meet
              case rel => exact ⟨rfl, rfl⟩
          case rest =>
            obtain ⟨rfl, rfl⟩ := hcut
            go_upto_if 37 with fail
            go_cut [8] from 11 to 71 (fun s8 wx => s8 = .int .u8 (kd : Int) ∧ wx = wc)
            case first =>
              cases bg <;> cases la
              all_goals
                go_wp2
                go_meet
                case rel => exact ⟨by rw [HKD.out]; rfl, rfl⟩
            case rest =>
              obtain ⟨rfl, rfl⟩ := hcut
              obtain ⟨T, hT⟩ : ∃ T, T = rl.take n := ⟨_, rfl⟩
              have hTl : T.length = n := by rw [hT, List.length_take]; omega
              have HTT := Lib.hid hT
              have HTl := Lib.hid hTl
              have SM := Lib.hid (fun W => refSum_at (x := (kd : Int)) kd (by omega) T (by omega) rfl W)
              have LT := Lib.hid (fun W => refLittle_at (x := (n : Int)) (y := 2) (n := n) (k := 2) rfl rfl (by omega) (by decide) W)
              generalize hS4 : little 4 (Crc.mask (Crc.ofL (UInt8.ofNat kd :: T))) = S4 at SM
              generalize hS2 : little 2 n = S2 at LT
              have hS4l : S4.length = 4 := by rw [← hS4]; exact little_len _ _
              have hS2l : S2.length = 2 := by rw [← hS2]; exact little_len _ _
              have HS4 := Lib.hid hS4
              have HS2 := Lib.hid hS2
              have hcv : ∀ (W : World) (g : Nat), W.heap[g]? = some (.cells #[.int .u8 (kd : Int)] 5) → (convert 39 9 (.slice (some ⟨g, 0, none⟩) 1 1)).run Try.prog W = .ok (.string (bs [UInt8.ofNat kd])) W := fun W g h => by
                have := conv_cells W g (kd : Int) h
                rw [Int.toNat_natCast] at this
                exact this
              have n1 : (0 : Int) ≤ (n : Int) := by omega
              have n2 : (n : Int) ≤ (rl.length : Int) := by omega
              have hTe : rl.take n = T := hT.symm
              have hkn : ((kd : Nat) : Int).toNat = kd := by omega
              have hz0 := HB.out.size
              have a0 : ¬ 9223372036854775807 < l2.length + 4 := by omega
              have a1 : ¬ 9223372036854775807 < l2.length + 4 + 2 := by omega
              have a2 : ¬ 9223372036854775807 < l2.length + 6 := by omega
              have a3 : ¬ 9223372036854775807 < l2.length + 6 + 1 := by omega
              have a4 : ¬ 9223372036854775807 < l2.length + 4 + 2 + 1 := by omega
              have a5 : ¬ 9223372036854775807 < l2.length + (4 + 2) + 1 := by omega
              have a6 : ¬ 9223372036854775807 < l2.length + 7 := by omega
              have a7 : ¬ 9223372036854775807 < l2.length + 7 + n := by omega
              have a8 : ¬ 9223372036854775807 < l2.length + 7 + T.length := by omega
              have a9 : ¬ 9223372036854775807 < l2.length + 6 + 1 + n := by omega
              have a10 : ¬ 9223372036854775807 < l2.length + 6 + 1 + T.length := by omega
              have a11 : ¬ 9223372036854775807 < l2.length + (4 + (2 + 1)) + T.length := by omega
              have a12 : ¬ 9223372036854775807 < l2.length + (4 + (2 + 1)) + n := by omega
              have a13 : ¬ 9223372036854775807 < l2.length + (4 + 3) + T.length := by omega
              have hcv1 : ∀ W : World, (convert 39 9 (.slice (some ⟨W.heap.size, 0, none⟩) 1 1)).run Try.prog (W.alloc (.cells #[.int .u8 (kd : Int)] 5)) = .ok (.string (bs [UInt8.ofNat kd])) (W.alloc (.cells #[.int .u8 (kd : Int)] 5)) := fun W => by
                have := conv_cells (W.alloc (.cells #[.int .u8 (kd : Int)] 5)) W.heap.size (kd : Int) (heap_alloc_last W _)
                rw [Int.toNat_natCast] at this
                exact this
              have hcv2 : ∀ W : World, (convert 39 9 (.slice (some ⟨W.heap.size, 0, none⟩) 1 1)).run Try.prog (W.alloc (.cells #[.int .u8 (kd : Int)] 5)).drew = .ok (.string (bs [UInt8.ofNat kd])) (W.alloc (.cells #[.int .u8 (kd : Int)] 5)).drew := fun W => by
                have := conv_cells (W.alloc (.cells #[.int .u8 (kd : Int)] 5)).drew W.heap.size (kd : Int) (heap_alloc_last W _)
                rw [Int.toNat_natCast] at this
                exact this
              clear hT hTl hS4 hS2 hnla
              go_upto_region 17 with fail
              go_cut [5] from 11 to 71 (fun s5 wx => s5 = .string (bs (l2 ++ (S4 ++ (S2 ++ UInt8.ofNat kd :: T)))) ∧ Below w.heap.size w wx)
              case first =>
               go_region_with (first
                   | (go_at_call 22; (with_reducible refine (SM.out _).mono ?_); rintro e w4 ⟨rfl, hw4⟩; (try have hc4 : w4.heap[wc.heap.size]? = some (.cells #[.int .u8 (kd : Int)] 5) := (hw4.block wc.heap.size (by simp)).trans (by exact heap_alloc_last wc _)); have hb4 : Below w.heap.size w w4 := (by first | exact below_one HB.out hw4 rfl rfl rfl rfl | exact below_one (HB.out.alloc HB.out.size (.cells #[.int .u8 (kd : Int)] 5)) hw4 rfl rfl rfl rfl); have hz4 : wc.heap.size ≤ w4.heap.size := (by have := hw4.size; simp at this; omega))
                   | (go_at_call 23; (with_reducible refine (LT.out _).mono ?_); rintro e w5 ⟨rfl, hw5⟩; (try have hc5 : w5.heap[wc.heap.size]? = some (.cells #[.int .u8 (kd : Int)] 5) := (hw5.block _ (Array.getElem?_eq_some_iff.1 hc4).1).trans hc4); (try have hc6 : w5.heap[w4.heap.size]? = some (.cells #[.int .u8 (kd : Int)] 5) := (hw5.block w4.heap.size (by simp)).trans (by exact heap_alloc_last w4 _)); have hb5 : Below w.heap.size w w5 := (by first | exact below_one hb4 hw5 rfl rfl rfl rfl | exact below_one (hb4.alloc hb4.size (.cells #[.int .u8 (kd : Int)] 5)) hw5 rfl rfl rfl rfl)))
               all_goals
                 go_wp2
                 go_meet
                 case rel => first | exact ⟨rfl, hb5⟩ | exact ⟨rfl, hb5.alloc hb5.size _⟩ | exact ⟨rfl, (hb5.alloc hb5.size _).drew⟩ | exact ⟨rfl, hb5.drew⟩
              case rest =>
                obtain ⟨rfl, hbc⟩ := hcut
                have HBC := Lib.hid hbc
                clear hbc hcv hcv1 hcv2 hw1
                have hO : l2 ++ (S4 ++ (S2 ++ UInt8.ofNat kd :: T)) = l ++ (List.replicate (gapOf (p + l.length)) 0 ++ pce kd T) := by
                  have e := pce_eq kd T (l ++ List.replicate (gapOf (p + l.length)) 0)
                  rw [HS4.out, HTl.out, HS2.out] at e
                  rw [HL2.out]
                  exact e.trans (List.append_assoc _ _ _)
                have HO := Lib.hid hO
                clear hO
                generalize hOe : l2 ++ (S4 ++ (S2 ++ UInt8.ofNat kd :: T)) = O at *
                clear hOe
                cases la with
                | true =>
                  have HF : Hid (O = lay p r0) := by
                    have hle : rl.length ≤ rm := by have := HLA.out; simpa using this.symm
                    have h2 := HE.out
                    rw [layAt_last (by rw [HRM.out]; exact hle)] at h2
                    have hTr : T = rl := by rw [HTT.out]; exact List.take_of_length_le (by have := HN.out; omega)
                    rw [HO.out, hTr, HKD.out]; exact h2
                  have hkc : kd = 1 ∨ kd = 4 := by rw [HKD.out]; cases bg <;> decide
                  rcases hkc with hk | hk
                  · have t1 : (kd : Int) = 1 := by omega
                    clear hk
                    go_wp2
                    go_ret
                    exact ⟨ret_lay HF.out, HBC.out⟩
                  · have t1 : (kd : Int) = 4 := by omega
                    clear hk
                    go_wp2
                    go_ret
                    exact ⟨ret_lay HF.out, HBC.out⟩
                | false =>
                  have hgt : rm < rl.length := by have := HLA.out; simp at this; omega
                  have hnr : n = rm := by have := HN.out; omega
                  have HF : Hid (O ++ layAt (p + O.length) true (rl.drop n) = lay p r0) := by
                    have h2 := HE.out
                    rw [layAt_more (by rw [HRM.out]; exact hgt), HRM.out, ← hnr, ← HTT.out, ← HKD.out, ← List.append_assoc, ← HO.out, show p + l.length + (List.replicate (gapOf (p + l.length)) (0 : UInt8) ++ pce kd T).length = p + O.length by rw [HO.out, @List.length_append _ l]; omega] at h2
                    exact h2
                  have hOl : O.length = l.length + (gapOf (p + l.length) + (7 + n)) := by rw [HO.out, List.length_append, List.length_append, List.length_replicate, pce_len, HTl.out]
                  have hO1 : O.length ≤ 10000 := by have h1 := HT.out; rw [← HF.out, List.length_append] at h1; omega
                  have hkc : kd = 2 ∨ kd = 3 := by rw [HKD.out]; cases bg <;> decide
                  have t1 : ((kd : Int) == 1) = false := by rw [beq_eq_false_iff_ne]; omega
                  have t4 : ((kd : Int) == 4) = false := by rw [beq_eq_false_iff_ne]; omega
                  have HOL := Lib.hid hOl
                  clear hkc hOl hnr
                  go_wp2
                  exact ⟨⟨rl.drop n, O, false, rfl, rfl, rfl, HF.out, by rw [List.length_drop]; omega, HBC.out⟩, by
                    have := HOL.out
                    simp [strLen, bs_size]; omega⟩
theorem refLay_any (x : Int) (hh : x ≤ 1073741824) (r0 : List UInt8) (hr : r0.length ≤ 3000) (w : World) :
    Calls Try.prog 8 #[.int .i64 x, .string (bs r0)] w fun e w' => e = .returned (.string (bs (lay x.toNat r0))) ∧ Below w.heap.size w w' :=
  refLay_go x x.toNat (by omega) (by omega) r0 hr w
end Go.Proofs.Ytindchneeflgfaa
