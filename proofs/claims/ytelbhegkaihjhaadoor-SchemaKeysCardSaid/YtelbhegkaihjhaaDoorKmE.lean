/-
  The document's own keys, walked: rows of parts as bytes. Conditions: as each theorem states.
-/
import Derived.Test.YtelbhegkaihjhaaDoorKmC
namespace Go.Proofs.YtelbhegkaihjhaaDoor
open Go.RowKit
open Vi

theorem ext_one {s : ByteArray} {q : Nat} (h : q < s.size) : s.extract q (q + 1) = bs [s[q]] := by
  rw [← bs_of (s.extract q (q + 1)), Lib.extract_eq]
  have : ((s.data.toList.drop q).take (q + 1 - q)) = [s[q]] := by
    rw [drop_at s q h, Nat.add_sub_cancel_left]; rfl
  first | rw [this] | (simp only [Nat.add_sub_cancel_left] at this; rw [bs_toList, Nat.add_sub_cancel_left, this])
theorem esc_take {s : ByteArray} {q : Nat} (h : q < s.size) : esc (s.data.toList.take (q + 1)) = esc (s.data.toList.take q) ++ esc [s[q]] := by
  rw [List.take_succ_eq_append_getElem (show q < s.data.toList.length from h), esc_append]; rfl
theorem mk_end {k r : List UInt8} {p : KPart} {l l0 : List KPart} (HG : Hid (mkGo k (p :: l) = mkGo [] l0)) {x : Int} (h : mkGo k (p :: l) = (r, x)) : Ending.returned (.tuple #[.string (bs r), .int .i64 x]) = .returned (.tuple #[.string (bs (mkGo [] l0).1), .int .i64 (mkGo [] l0).2]) := by
  rw [← HG.out, h]
theorem one_at (W : World) (o : Obj) (c : Int) : (convert 70 9 (.slice (some ⟨W.heap.size + 1, 0, none⟩) 1 1)).run Tryd.prog ((W.alloc o).alloc (.cells #[.int .u8 c] 5)) =
    .ok (.string (bs [UInt8.ofNat c.toNat])) ((W.alloc o).alloc (.cells #[.int .u8 c] 5)) := by
  have := one_byte (W.alloc o) c
  have hs : (W.alloc o).heap.size = W.heap.size + 1 := by simp
  rw [hs] at this
  exact this
def TxJ (s : ByteArray) (t i : Value) : Prop := ∃ q : Nat, q ≤ s.size ∧ t = .string (bs (116 :: esc (s.data.toList.take q))) ∧ i = .int .i64 q
set_option maxRecDepth 100000 in
set_option maxHeartbeats 4000000 in
theorem rmake_any {w : World} (A : Option Addr) (c : Nat) (l : List KPart) (hl : l.length ≤ 1000) (hr : PRow w A l) (hok : ∀ p ∈ l, p.ok ∧ p.s.size ≤ 1000) :
    Calls Tryd.prog 18 #[.slice A l.length c] w fun e w' => e = .returned (.tuple #[.string (bs (mkGo [] l).1), .int .i64 (mkGo [] l).2]) ∧ Below w.heap.size w w' := by
  have HR := Lib.hid hr
  have HO := Lib.hid hok
  have hob := one_at
  clear hr hok
  go_enter Tryd.func18, Tryd.ntmps18
  go_wp2
  go_loopw [4, 11] (MkJ w l) (fun _ i _ => l.length - (intOf i).toNat)
  case atStart => exact ⟨0, [], by omega, by simp, rfl, rfl, rfl, Below.refl _ _⟩
  case round =>
    obtain ⟨j, k, hj, hk, hg, rfl, rfl, hb⟩ := hrel
    have hbz := bs_size
    have hba := bs_append
    have q00 : (⟨#[0, 0]⟩ : ByteArray) = bs [0, 0] := rfl
    have q255 : (⟨#[255]⟩ : ByteArray) = bs [255] := rfl
    by_cases hlt : j < l.length
    · obtain ⟨a, rfl, hab, hc⟩ := HR.out (by omega)
      obtain ⟨x0, x1, x2, x3⟩ := (hc j hlt).keep (w' := wr) fun q hq => hb.cell (by rw [hq, block_add]; exact hab)
      have hd : l.drop j = l[j] :: l.drop (j + 1) := List.drop_eq_getElem_cons hlt
      obtain ⟨⟨o1, o2, o3, o4⟩, hps⟩ := HO.out l[j] (List.getElem_mem hlt)
      rw [hd] at hg
      clear hc hd
      generalize l[j] = p at *
      obtain ⟨sx, nx, ux, tx⟩ := p
      simp only at x0 x1 x2 x3 o1 o2 o3 o4 hps
      have HG := Lib.hid hg
      clear hg
      have HB := Lib.hid ((hb.alloc hb.size (.cells #[.int .u8 sx, .int .i64 nx, .int .u64 ux, .string tx] 46)).alloc (by have := hb.size; simp; omega) (.cells #[.int .u8 sx] 5))
      have LI := Lib.hid (rlift_any nx o2 o3)
      have hll := lift_lt o2 o3
      replace o2 := Lib.hid o2
      replace o3 := Lib.hid o3
      replace o4 := Lib.hid o4
      by_cases c1 : sx = 105
      · subst c1
        have hp := pbytes_i (p := ⟨105, nx, ux, tx⟩) rfl
        have BG := Lib.hid (rbig_any (lift nx) hll)
        have h8 := big8_len (lift nx)
        simp only at hp
        generalize lift nx = N at *
        generalize big8 N = D at *
        have HP := Lib.hid hp
        clear hp hll
        by_cases h2 : 200 < k.length + 9
        · go_wp2_with (first
            | (go_at_call 32; (with_reducible refine (LI.out _).mono ?_); rintro e w1 ⟨rfl, rfl⟩)
            | (go_at_call 31; (with_reducible refine (BG.out _).mono ?_); rintro e w2 ⟨rfl, b2⟩))
          go_ret2
          exact ⟨mk_end (r := []) HG (mkGo_long (by rw [HP.out]) (by rw [HP.out]; simp; omega)), HB.out.trans (b2.mono HB.out.size)⟩
        · go_wp2_with (first
            | (go_at_call 32; (with_reducible refine (LI.out _).mono ?_); rintro e w1 ⟨rfl, rfl⟩)
            | (go_at_call 31; (with_reducible refine (BG.out _).mono ?_); rintro e w2 ⟨rfl, b2⟩))
          go_roundw
          case rel => exact ⟨j + 1, k ++ (105 :: D), by omega, by simp; omega, by rw [← HG.out, mkGo_on (by rw [HP.out]) (by rw [HP.out]; simp; omega), HP.out], rfl, by go_num, HB.out.trans (b2.mono HB.out.size)⟩
          case measure => simp [intOf]; omega
      · have k1 : ((sx : Int) == 105) = false := by simp; omega
        by_cases c2 : sx = 100
        · subst c2
          have hp := pbytes_d (p := ⟨100, nx, ux, tx⟩) rfl
          have BG := Lib.hid (rbig_any (18446744073709551615 - lift nx) (by omega))
          have hcast : ((18446744073709551615 - lift nx : Nat) : Int) = 18446744073709551615 - ((lift nx : Nat) : Int) := by omega
          have BG2 := BG.out
          rw [hcast] at BG2
          have BG2 := Lib.hid BG2
          have BG3 : Hid (∀ W, Calls Tryd.prog 31 #[.int .u64 (IntKind.u64.wrap (18446744073709551615 - ((lift nx : Nat) : Int)))] W fun e w' => e = .returned (.string (bs (big8 (18446744073709551615 - lift nx)))) ∧ Below W.heap.size W w') := fun W => by
            rw [show IntKind.u64.wrap (18446744073709551615 - ((lift nx : Nat) : Int)) = 18446744073709551615 - ((lift nx : Nat) : Int) by rw [IntKind.wrap_u64]; omega]
            exact BG2.out W
          have h8 := big8_len (18446744073709551615 - lift nx)
          simp only at hp
          clear hcast
          generalize big8 (18446744073709551615 - lift nx) = D at *
          generalize lift nx = N at *
          have HP := Lib.hid hp
          replace hll := Lib.hid hll
          clear hp
          by_cases h2 : 200 < k.length + 9
          · go_wp2_with (first
                | (go_at_call 32; (with_reducible refine (LI.out _).mono ?_); rintro e w1 ⟨rfl, rfl⟩)
                | (go_at_call 31; (with_reducible first | refine (BG2.out _).mono ?_ | refine (BG3.out _).mono ?_ | refine (BG.out _).mono ?_); rintro e w2 ⟨rfl, b2⟩))
            go_ret2
            exact ⟨mk_end (r := []) HG (mkGo_long (by rw [HP.out]) (by rw [HP.out]; simp; omega)), HB.out.trans (b2.mono HB.out.size)⟩
          · go_wp2_with (first
                | (go_at_call 32; (with_reducible refine (LI.out _).mono ?_); rintro e w1 ⟨rfl, rfl⟩)
                | (go_at_call 31; (with_reducible first | refine (BG2.out _).mono ?_ | refine (BG3.out _).mono ?_ | refine (BG.out _).mono ?_); rintro e w2 ⟨rfl, b2⟩))
            go_roundw
            case rel => exact ⟨j + 1, k ++ (100 :: D), by omega, by simp; omega, by rw [← HG.out, mkGo_on (by rw [HP.out]) (by rw [HP.out]; simp; omega), HP.out], rfl, by go_num, HB.out.trans (b2.mono HB.out.size)⟩
            case measure => simp [intOf]; omega
        · have k2 : ((sx : Int) == 100) = false := by simp; omega
          by_cases c3 : sx = 117
          · subst c3
            have hp := pbytes_u (p := ⟨117, nx, ux, tx⟩) rfl
            have BG := Lib.hid (rbig_any ux o4.out)
            have h8 := big8_len ux
            simp only at hp
            generalize big8 ux = D at *
            have HP := Lib.hid hp
            clear hp hll
            by_cases h2 : 200 < k.length + 9
            · go_wp2_with (first
                  | (go_at_call 31; (with_reducible first | refine (BG.out _).mono ?_); rintro e w2 ⟨rfl, b2⟩))
              go_ret2
              exact ⟨mk_end (r := []) HG (mkGo_long (by rw [HP.out]) (by rw [HP.out]; simp; omega)), HB.out.trans (b2.mono HB.out.size)⟩
            · go_wp2_with (first
                  | (go_at_call 31; (with_reducible first | refine (BG.out _).mono ?_); rintro e w2 ⟨rfl, b2⟩))
              go_roundw
              case rel => exact ⟨j + 1, k ++ (117 :: D), by omega, by simp; omega, by rw [← HG.out, mkGo_on (by rw [HP.out]) (by rw [HP.out]; simp; omega), HP.out], rfl, by go_num, HB.out.trans (b2.mono HB.out.size)⟩
              case measure => simp [intOf]; omega
          · have k3 : ((sx : Int) == 117) = false := by simp; omega
            by_cases c4 : sx = 116
            · subst c4
              have hel := esc_len tx.data.toList
              have hle := esc_le tx.data.toList
              rw [size_len] at hel hle
              clear hll LI
              go_wp2
              go_loop [7, 8] (fun t i => TxJ tx t i) (fun _ i => tx.size - (intOf i).toNat)
              case atStart => exact ⟨0, by omega, rfl, rfl⟩
              case round =>
                obtain ⟨q, hq, rfl, rfl⟩ := hrel
                by_cases hlq : q < tx.size
                · have hx1 := ext_one hlq
                  have hes := esc_take hlq
                  have htl : (esc (tx.data.toList.take q)).length ≤ 2000 := by
                    have := esc_len (tx.data.toList.take q)
                    rw [List.length_take, size_len] at this; omega
                  have r1 : (q : Int) + 1 ≤ tx.size := by omega
                  have r2 : (0 : Int) ≤ (q : Int) + 1 := by omega
                  have r3 : (q : Int) ≤ (q : Int) + 1 := by omega
                  have r4 : ((q : Int) + 1).toNat = q + 1 := by omega
                  have r5 : q + 1 ≤ tx.size := by omega
                  by_cases h0 : tx[q] = 0
                  · rw [h0] at hx1 hes
                    rw [esc_zero] at hes
                    have hz0 : ((tx[q].toNat : Int) == 0) = true := by rw [h0]; rfl
                    generalize esc (tx.data.toList.take q) = E at hes htl
                    have HE := Lib.hid hes
                    clear hes h0
                    go_wp2
                    go_round
                    case rel => exact ⟨q + 1, by omega, congrArg Value.string (congrArg bs (by first | (rw [HE.out]; done) | (rw [HE.out]; simp))), by go_num⟩
                    case measure => simp [intOf]; omega
                  · have hz0 : ((tx[q].toNat : Int) == 0) = false := by
                      have : ¬ tx[q].toNat = 0 := fun e => h0 (toNat_eq (by rw [e]; rfl))
                      simp; omega
                    rw [esc_other h0] at hes
                    generalize esc (tx.data.toList.take q) = E at hes htl
                    have HE := Lib.hid hes
                    clear hes h0
                    go_wp2
                    go_round
                    case rel => exact ⟨q + 1, by omega, congrArg Value.string (congrArg bs (by first | (rw [HE.out]; done) | (rw [HE.out]; simp))), by go_num⟩
                    case measure => simp [intOf]; omega
                · have hqe : q = tx.data.toList.length := by rw [size_len]; omega
                  rw [hqe, List.take_length]
                  clear hqe hlq hq
                  by_cases h3 : 200 < tx.size
                  · have HP := Lib.hid (pbytes_l (p := ⟨116, nx, ux, tx⟩) rfl h3)
                    generalize esc tx.data.toList = E at hel hle
                    go_wp2
                    go_ret2
                    exact ⟨mk_end (r := []) HG (by rw [mkGo_bad (by rw [HP.out]; decide), HP.out]), HB.out⟩
                  · have HP := pbytes_t (p := ⟨116, nx, ux, tx⟩) rfl h3
                    simp only at HP
                    generalize esc tx.data.toList = E at hel hle HP
                    replace HP := Lib.hid HP
                    by_cases h2 : 200 < k.length + (E.length + 3)
                    · go_wp2
                      go_ret2
                      exact ⟨mk_end (r := []) HG (mkGo_long (by rw [HP.out]) (by rw [HP.out]; simp; omega)), HB.out⟩
                    · go_wp2
                      go_roundw
                      case rel => exact ⟨j + 1, k ++ (116 :: (E ++ [0, 0])), by omega, by simp; omega, by rw [← HG.out, mkGo_on (by rw [HP.out]) (by rw [HP.out]; simp; omega), HP.out], by first | rfl | exact congrArg Value.string (congrArg bs (by simp)), by go_num, HB.out⟩
                      case measure => simp [intOf]; omega
            · have k4 : ((sx : Int) == 116) = false := by simp; omega
              have hp := pbytes_n (p := ⟨sx, nx, ux, tx⟩) c1 c2 c3 c4
              have HP := Lib.hid hp
              clear hp hll
              go_wp2
              go_ret2
              exact ⟨mk_end (r := []) HG (by rw [mkGo_bad (by rw [HP.out]; decide), HP.out]), HB.out⟩
    · go_wp2
      go_ret2
      exact ⟨ret_pair (by rw [← hg, List.drop_of_length_le (by omega)]; rfl), hb⟩
end Go.Proofs.YtelbhegkaihjhaaDoor
