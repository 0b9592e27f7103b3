/-
  The document's text that reads a log, walked. Conditions: as each theorem states.
-/
import Derived.Test.YtdkgieaanpfhcaaGreatDoorFrU
import Derived.Test.YtdkgieaanpfhcaaGreatDoorFrK
namespace Go.Proofs.YtdkgieaanpfhcaaGreatDoor
open Go.RowKit
open Vi

/-- The cells of records. -/
def rCells (o : List RecX) : List Value := o.flatMap fun x => [Value.string (bs x.1), Value.int .i64 ((x.2 : Nat) : Int)]
theorem rCells_len : ∀ o : List RecX, (rCells o).length = o.length * 2
  | [] => rfl
  | x :: o => by
    have := rCells_len o
    show ([_, _] ++ rCells o).length = _
    rw [List.length_append, this]; simp; omega
theorem rCells_snoc (o : List RecX) (x : RecX) : rCells (o ++ [x]) = rCells o ++ [Value.string (bs x.1), Value.int .i64 ((x.2 : Nat) : Int)] := by simp [rCells]
theorem rCells_at : ∀ (o : List RecX) (i : Nat) (h : i < o.length), (rCells o)[i * 2]? = some (.string (bs o[i].1)) ∧ (rCells o)[i * 2 + 1]? = some (.int .i64 ((o[i].2 : Nat) : Int))
  | [], i, h => by simp at h
  | x :: o, 0, _ => ⟨rfl, rfl⟩
  | x :: o, i + 1, h => by
    have ih := rCells_at o i (by simpa using h)
    have e1 : (rCells (x :: o)) = Value.string (bs x.1) :: Value.int .i64 ((x.2 : Nat) : Int) :: rCells o := rfl
    rw [e1, show (i + 1) * 2 = i * 2 + 1 + 1 by omega]
    exact ih
theorem infoRec : (Tryz.prog.info? 65).map (fun i => (i.zero, i.size, i.bytes)) = some (some (.agg #[.string ⟨#[]⟩, .int .i64 0]), 2, 24) := by kernel_rfl
theorem news_two (w1 : World) (u v : Value) (t : TypeId) : ∀ j x, [u, v][j]? = some x → (w1.alloc (.cells #[u, v] t)).cell? ((⟨w1.heap.size, 0, none⟩ : Addr).add j) = some x := by
  intro j x hj
  match j, hj with
  | 0, hj => simp at hj; subst hj; simp [Addr.add]
  | 1, hj => simp at hj; subst hj; simp [Addr.add]
def RfJ (w : World) (L : List UInt8) (v s b a : Value) (wr : World) : Prop :=
  ∃ (o : List RecX) (acc : List UInt8) (bb : Bool) (p : Nat), s = .string (bs acc) ∧ b = .bool bb ∧ a = .int .i64 p ∧ p ≤ L.length ∧ acc.length ≤ p ∧ o.length ≤ p ∧ recs L 0 = o ++ rest L bb p acc ∧
    wr.ownsRow w.heap.size 65 2 v o.length (rCells o) ∧ Below w.heap.size w wr
def RfP (w : World) (L : List UInt8) (e : Ending) (w' : World) : Prop :=
  (∃ v, e = .returned v ∧ w'.ownsRow w.heap.size 65 2 v (recs L 0).length (rCells (recs L 0))) ∧ Below w.heap.size w w'
theorem rfP_of {w W : World} {L : List UInt8} {o : List RecX} {v : Value} (h : recs L 0 = o) (hown : W.ownsRow w.heap.size 65 2 v o.length (rCells o)) (hb : Below w.heap.size w W) : RfP w L (.returned v) W := by
  subst h; exact ⟨⟨v, rfl, hown⟩, hb⟩
theorem little_eq {m : Nat} {s0 s1 s2 s3 : UInt8} (hm : m < 4294967296) : (little 4 m == [s0, s1, s2, s3]) = decide (m = big [s0, s1, s2, s3]) := by
  rw [Bool.eq_iff_iff, beq_iff_eq, decide_eq_true_iff]
  constructor
  · intro h; rw [← h, big_little 4 m (by simpa using hm)]
  · intro h; rw [h]; exact little_big [s0, s1, s2, s3]
theorem drew_below {w w' : World} (h : Below w.drew.heap.size w.drew w') : Below w.heap.size w w' := ⟨h.os, h.tape, h.output, h.size, h.block⟩
set_option maxRecDepth 100000 in
set_option maxHeartbeats 4000000 in
theorem rrecs_any (L : List UInt8) (hL : L.length ≤ 1000000) (w : World) :
    Calls Tryz.prog 22 #[.string (bs L)] w (RfP w L) := by
  obtain ⟨i0, hi, hz0, hz1, hz2⟩ := info_parts infoRec
  have HI := Lib.hid (And.intro hi (And.intro hz0 (And.intro hz1 hz2)))
  clear hi hz0 hz1 hz2
  have hbz := bs_size
  have hba := bs_append
  have hbl := bs_list
  go_enter Tryz.func22, Tryz.ntmps22
  go_wp2
  go_loopw [3, 4, 5, 6] (fun v s b a wr => RfJ w L v s b a wr) (fun _ _ _ a _ => L.length + 1 - (intOf a).toNat)
  case atStart => exact ⟨[], [], false, 0, rfl, rfl, rfl, by omega, by simp, by simp, by rw [rest_start]; rfl, World.ownsRow_nil _ _ _ _, Below.refl _ _⟩
  case round =>
    obtain ⟨o, acc, bb, p, rfl, rfl, rfl, hp, hacc, ho, hrs, hown, hb⟩ := hrel
    have HR := Lib.hid hrs
    have HO := Lib.hid hown
    have HB := Lib.hid hb
    clear hrs hown hb
    go_wp2
    go_loop [6] (fun a => ∃ q : Nat, a = .int .i64 q ∧ p ≤ q ∧ q ≤ L.length ∧ rest L bb p acc = rest L bb q acc) (fun a => gapOf (intOf a).toNat)
    case atStart => exact ⟨p, rfl, by omega, hp, rfl⟩
    case round =>
      obtain ⟨q, rfl, hpq, hq, hre⟩ := hrel
      have HRE := Lib.hid hre
      clear hre
      have hroom := gap_room q
      by_cases hg : 0 < gapOf q
      · have h7 : (512 - q % 512 : Nat) < 7 := by
          have := (gap_iff q 0 (by omega)).2 hg
          simpa using this
        have RM := Lib.hid (fun W => refRoom_any q (by omega) W)
        generalize 512 - q % 512 = rm at h7 RM
        by_cases hql : q < L.length
        · by_cases h0 : L[q] = 0
          · have hc : (bs L)[q]'(by rw [bs_size]; exact hql) = 0 := h0
            have hst := Lib.hid (pread_step hg hql h0)
            have hgs := Lib.hid (gap_step hg).1
            clear h0
            go_wp2_with (first
              | (go_at_call 43; (with_reducible refine (RM.out _).mono ?_); rintro e w1 ⟨rfl, rfl⟩))
            go_round
            case rel => exact ⟨q + 1, by go_num, by omega, by omega, by rw [HRE.out]; exact rest_same (by omega) (by omega) hst.out⟩
            case measure => simp [intOf]; have := hgs.out; omega
          · have hc : (((bs L)[q]'(by rw [bs_size]; exact hql)).toNat : Int) ≠ 0 := fun e => h0 (by
              apply UInt8.toNat_inj.1
              have e2 : ((bs L)[q]'(by rw [bs_size]; exact hql)).toNat = 0 := by omega
              exact e2)
            have hc2 : ((((bs L)[q]'(by rw [bs_size]; exact hql)).toNat : Int) != 0) = true := by rw [bne_iff_ne]; exact hc
            have hst := Lib.hid (pread_stop (L := L) hg (fun _ => h0))
            clear h0 hc
            go_wp2_with (first
              | (go_at_call 43; (with_reducible refine (RM.out _).mono ?_); rintro e w1 ⟨rfl, rfl⟩))
            go_ret
            exact rfP_of (by rw [HR.out, HRE.out, rest_none hst.out, List.append_nil]) HO.out HB.out
        · have hst := Lib.hid (pread_stop (L := L) hg (fun h => absurd h hql))
          have hql2 : L.length ≤ q := by omega
          go_wp2_with (first
            | (go_at_call 43; (with_reducible refine (RM.out _).mono ?_); rintro e w1 ⟨rfl, rfl⟩))
          go_ret
          exact rfP_of (by rw [HR.out, HRE.out, rest_none hst.out, List.append_nil]) HO.out HB.out
      · have hg0 : gapOf q = 0 := by omega
        rw [hg0, Nat.add_zero] at hroom
        have RM : Hid (∀ W, Calls Tryz.prog 43 #[.int .i64 (q : Int)] W fun e w' => e = .returned (.int .i64 ((roomOf q : Int) + 7)) ∧ W = w') := fun W => refRoom_gap q (by omega) (by rw [hg0, Nat.add_zero]) W
        have hrl := roomOf_le q
        have HG0 := Lib.hid hg0
        clear hroom hg hg0
        by_cases h7 : L.length < q + 7
        · have hst := Lib.hid (pread_short (L := L) HG0.out h7)
          go_wp2_with (first
            | (go_at_call 43; (with_reducible refine (RM.out _).mono ?_); rintro e w1 ⟨rfl, rfl⟩))
          go_ret
          exact rfP_of (by rw [HR.out, HRE.out, rest_none hst.out, List.append_nil]) HO.out HB.out
        · obtain ⟨s0, s1, s2, s3, c, d, k, R, hdr, hpr⟩ := pread_at (L := L) HG0.out (by omega)
          have hRl : R.length + 7 + q = L.length := by
            have := congrArg List.length hdr
            rw [List.length_drop] at this; simp at this; omega
          have hat : ∀ j (hj : j < 7 + R.length), (bs L)[q + j]'(by rw [bs_size]; omega) = (s0 :: s1 :: s2 :: s3 :: c :: d :: k :: R)[j]'(by simp; omega) := fun j hj => by
            have e : (L.drop q)[j]? = L[q + j]? := by rw [List.getElem?_drop]
            rw [hdr, List.getElem?_eq_getElem (by simp; omega), List.getElem?_eq_getElem (by omega)] at e
            exact (Option.some.inj e).symm
          have y4 : ∀ h, (bs L)[q + 4]'h = c := fun h => hat 4 (by omega)
          have y5 : ∀ h, (bs L)[q + 5]'h = d := fun h => hat 5 (by omega)
          have y6 : ∀ h, (bs L)[q + 6]'h = k := fun h => hat 6 (by omega)
          have hcl := c.toNat_lt
          have hdl := d.toNat_lt
          have hkl := k.toNat_lt
          obtain ⟨n, hn⟩ : ∃ n, n = c.toNat + 256 * d.toNat := ⟨_, rfl⟩
          rw [← hn] at hpr
          have hnl : n ≤ 65535 := by omega
          have HPR := Lib.hid hpr
          have HDR := Lib.hid hdr
          have HN := Lib.hid hn
          have hnI : (c.toNat : Int) + 256 * (d.toNat : Int) = (n : Int) := by omega
          have v1 : IntKind.i64.wrap ((q : Int) + 4) = q + 4 := IntWalk.i64_in _ (by omega)
          have v2 : IntKind.i64.wrap ((q : Int) + 5) = q + 5 := IntWalk.i64_in _ (by omega)
          have v3 : IntKind.i64.wrap (c.toNat : Int) = c.toNat := IntWalk.i64_in _ (by omega)
          have v4 : IntKind.i64.wrap (d.toNat : Int) = d.toNat := IntWalk.i64_in _ (by omega)
          have v6 : IntKind.i64.wrap (256 * (d.toNat : Int)) = 256 * d.toNat := IntWalk.i64_in _ (by omega)
          have v7 : IntKind.i64.wrap (n : Int) = n := IntWalk.i64_in _ (by omega)
          have j2 : (q : Int) + 4 < (L.length : Int) := by omega
          have j3 : (q : Int) + 5 < (L.length : Int) := by omega
          have j4 : (0 : Int) ≤ (q : Int) + 4 := by omega
          have j5 : (0 : Int) ≤ (q : Int) + 5 := by omega
          have j6 : ((q : Int) + 4).toNat = q + 4 := by omega
          have j7 : ((q : Int) + 5).toNat = q + 5 := by omega
          have j8 : (0 : Int) ≤ (q : Int) + 6 := by omega
          have j9 : ((q : Int) + 6).toNat = q + 6 := by omega
          clear hat hpr hdr hn
          go_wp2_with (first
            | (go_at_call 43; (with_reducible refine (RM.out _).mono ?_); rintro e w1 ⟨rfl, rfl⟩))
          go_quiet (fail)
          clear v1 v2 v3 v4 v6 v7
          have HO3 : Hid ((wr.drewN nq).ownsRow w.heap.size 65 2 u3 o.length (rCells o)) := HO.out
          have HB3 : Hid (Below w.heap.size w (wr.drewN nq)) := ⟨HB.out.os, HB.out.tape, HB.out.output, HB.out.size, HB.out.block⟩
          generalize wr.drewN nq = w3 at *
          clear HO HB hnI y4 y5 j2 j3 j4 j5 j6 j7
          by_cases good : (1 ≤ k.toNat ∧ k.toNat ≤ 4) ∧ n ≤ roomOf q ∧ n ≤ R.length
          · obtain ⟨⟨hk1, hk4⟩, hnr, hnR⟩ := good
            obtain ⟨T, hT⟩ : ∃ T, T = R.take n := ⟨_, rfl⟩
            have hTl : T.length = n := by rw [hT, List.length_take]; omega
            have hdr7 : L.drop (q + 7) = R := by rw [← List.drop_drop, HDR.out]; rfl
            have hcut : (bs L).extract (q + 7) (q + 7 + n) = bs T := by rw [bs_cut, hdr7, hT]; congr 2; omega
            have hcut4 : (bs L).extract q (q + 4) = bs [s0, s1, s2, s3] := by rw [bs_cut, HDR.out]; congr 1; rw [show q + 4 - q = 4 by omega]; rfl
            have sl1 : ∀ W : World, (Instr.slice 9 (.string (bs L)) (some (.int .i64 ((q : Int) + 7))) (some (.int .i64 ((q : Int) + 7 + (n : Int)))) none).run Tryz.prog W = .ok (.string (bs T)) W := fun W => by
              rw [run_slice_string _ _ _ _ _ _ _ Tryz.underlying9 (by omega) (by omega) (by rw [bs_size]; omega), show ((q : Int) + 7).toNat = q + 7 by omega, show ((q : Int) + 7 + (n : Int)).toNat = q + 7 + n by omega, hcut]
            have sl2 : ∀ W : World, (Instr.slice 9 (.string (bs L)) (some (.int .i64 (q : Int))) (some (.int .i64 ((q : Int) + 4))) none).run Tryz.prog W = .ok (.string (bs [s0, s1, s2, s3])) W := fun W => by
              rw [run_slice_string _ _ _ _ _ _ _ Tryz.underlying9 (by omega) (by omega) (by rw [bs_size]; omega), show (q : Int).toNat = q by omega, show ((q : Int) + 4).toNat = q + 4 by omega, hcut4]
            have SM := Lib.hid (fun W => refSum_any k.toNat hkl T (by omega) W)
            have hkk : UInt8.ofNat k.toNat = k := UInt8.ofNat_toNat
            rw [hkk] at SM
            have hpr := HPR.out
            rw [← hT] at hpr
            have heq := little_eq (s0 := s0) (s1 := s1) (s2 := s2) (s3 := s3) (Crc.mask_lt (Crc.ofL (k :: T)))
            generalize hX : little 4 (Crc.mask (Crc.ofL (k :: T))) = X at *
            have v1 : IntKind.i64.wrap ((q : Int) + 4) = q + 4 := IntWalk.i64_in _ (by omega)
            by_cases hsum : Crc.mask (Crc.ofL (k :: T)) = big [s0, s1, s2, s3]
            · have hX1 : (X == [s0, s1, s2, s3]) = true := by rw [heq]; simpa using hsum
              have hX2 : (X != [s0, s1, s2, s3]) = false := by unfold bne; rw [hX1]; rfl
              have hpr1 : pread L q = some (k.toNat, T, q + 7 + n) := by rw [hpr, if_pos ⟨⟨hnr, hnR⟩, hsum, hk1, hk4⟩]
              have HP1 := Lib.hid hpr1
              have HTl := Lib.hid hTl
              clear hT hTl hdr7 hcut hcut4 hpr heq hX hsum hpr1 hkk HPR HDR HN
              by_cases hmt : bb = decide (2 < (k.toNat : Int))
              · have hm1 : (bb != decide (2 < (k.toNat : Int))) = false := by rw [bne_eq_false_iff_eq]; exact hmt
                have hm2 : (bb == decide (2 < (k.toNat : Int))) = true := by rw [beq_iff_eq]; exact hmt
                have HMT := Lib.hid hmt
                clear hmt
                go_wp2_with (first
                  | (go_at_call 43; (with_reducible refine (RM.out _).mono ?_); rintro e w4 ⟨rfl, rfl⟩))
                go_region_held3 (fun _ => True) (trivial)
                  ((go_at_call 44; refine (SM.out _).mono ?_; rintro e w5 ⟨rfl, hb5⟩))
                have HO5 := Lib.hid (owns_on HO3.out (drew_below hb5))
                have HB5 := Lib.hid (HB3.out.trans ((drew_below hb5).mono HB3.out.size))
                have hz5 := HB5.out.size
                clear hb5 hX1 hX2 hm1 hm2 v1
                have hkc : k.toNat = 1 ∨ k.toNat = 2 ∨ k.toNat = 3 ∨ k.toNat = 4 := by omega
                have hac2 : acc.length + T.length ≤ 2000000 := by have := HTl.out; omega
                rcases hkc with hkn | hkn | hkn | hkn
                all_goals
                  have hkI : (k.toNat : Int) = ((k.toNat : Nat) : Int) := rfl
                  conv at hkI => rhs; rw [hkn]
                  have hdm : Hid ((decide (k.toNat = 3) || decide (k.toNat = 4)) = bb) := by
                    show (decide (k.toNat = 3) || decide (k.toNat = 4)) = bb
                    rw [HMT.out, hkI, hkn]; decide
                  have HKN := Lib.hid hkn
                  clear hkn hk1 hk4
                  go_wp2_with (first
                    | (at_builtin
                       refine wpList_append_lies _ rfl _ _ 53 rfl w.heap.size 65 i0 _ 2 24 Tryz.underlying53 HI.out.1 HI.out.2.1 HI.out.2.2.1 HI.out.2.2.2 rfl (by decide) u3 o.length (rCells o) rfl (HO5.out.alloc _) ⟨w5.heap.size, 0, none⟩ 1 1 [.string (bs (acc ++ T)), .int .i64 ((q : Int) + 7 + (n : Int))] rfl rfl (news_two w5 _ _ _) (by simp [Value.oneCell']) (by omega) (by unfold maxLen; omega) (by omega) (by simp; omega) (w5.heap.size + 1) (by simp) ?_
                       intro g cap w6 hown6 hgrow6 hwhere hlt6
                       have HE := Lib.hid (And.intro hown6 hgrow6)
                       clear hown6 hgrow6 hwhere hlt6))
                all_goals first
                  | (refine ⟨⟨o, acc ++ T, true, q + 7 + n, rfl, rfl, by go_num, by omega, by rw [List.length_append]; have := HTl.out; omega, by omega, ?_, HO5.out, HB5.out⟩, by simp [intOf]; omega⟩
                     rw [HR.out, HRE.out, rest_goes hq HP1.out hdm.out (by have := HKN.out; omega)])
                  | (refine ⟨⟨o ++ [(acc ++ T, q + 7 + n)], [], false, q + 7 + n, rfl, rfl, by go_num, by omega, by simp, by rw [List.length_append, List.length_singleton]; omega, ?_, ?_, below_own (HB5.out.alloc hz5 _) (HO5.out.alloc _) HE.out.2⟩, by simp [intOf]; omega⟩
                     · rw [HR.out, HRE.out, rest_ends hq HP1.out hdm.out (by have := HKN.out; omega), List.append_assoc]; rfl
                     · rw [List.length_append, List.length_singleton, rCells_snoc]
                       have e1 : ((q + 7 + n : Nat) : Int) = (q : Int) + 7 + (n : Int) := by omega
                       rw [e1]
                       exact HE.out.1)
              · have hm1 : (bb != decide (2 < (k.toNat : Int))) = true := by rw [bne_iff_ne]; exact hmt
                have hm2 : (bb == decide (2 < (k.toNat : Int))) = false := by rw [beq_eq_false_iff_ne]; exact hmt
                have HOF : Hid (rest L bb q acc = []) := rest_off (by omega) HP1.out (fun h => hmt (by
                  rw [← h]
                  by_cases h3 : k.toNat = 3
                  · simp [h3]
                  · by_cases h4 : k.toNat = 4
                    · simp [h4]
                    · have h5 : ¬ (2 : Int) < (k.toNat : Int) := by omega
                      simp [h3, h4, h5]))
                clear hmt
                go_wp2_with (first
                  | (go_at_call 43; (with_reducible refine (RM.out _).mono ?_); rintro e w4 ⟨rfl, rfl⟩))
                go_region_held3 (fun _ => True) (trivial)
                  ((go_at_call 44; refine (SM.out _).mono ?_; rintro e w5 ⟨rfl, hb5⟩))
                go_wp2
                go_ret
                exact rfP_of (by rw [HR.out, HRE.out, HOF.out, List.append_nil]) (owns_on HO3.out (drew_below hb5)) (HB3.out.trans ((drew_below hb5).mono HB3.out.size))
            · have hX1 : (X == [s0, s1, s2, s3]) = false := by rw [heq]; simpa using hsum
              have hX2 : (X != [s0, s1, s2, s3]) = true := by unfold bne; rw [hX1]; rfl
              have hst : Hid (pread L q = none) := hpr.trans (if_neg (fun h => hsum h.2.1))
              clear hT hTl hdr7 hcut hcut4 hpr heq hX hsum hkk HPR HDR HN
              go_wp2_with (first
                | (go_at_call 43; (with_reducible refine (RM.out _).mono ?_); rintro e w4 ⟨rfl, rfl⟩))
              first
                | go_region_with (go_at_call 44; refine (SM.out _).mono ?_; rintro e w5 ⟨rfl, hb5⟩)
                | fail
              all_goals
                go_wp2
                go_ret
                exact rfP_of (by rw [HR.out, HRE.out, rest_none hst.out, List.append_nil]) (owns_on HO3.out (drew_below hb5)) (HB3.out.trans ((drew_below hb5).mono HB3.out.size))
          · have hst : Hid (pread L q = none) := HPR.out.trans (if_neg (fun h => good ⟨h.2.2, h.1⟩))
            have HGD := Lib.hid good
            clear good
            go_wp2_with (first
              | (go_at_call 43; (with_reducible refine (RM.out _).mono ?_); rintro e w4 ⟨rfl, rfl⟩))
            all_goals first
              | (go_ret; exact rfP_of (by rw [HR.out, HRE.out, rest_none hst.out, List.append_nil]) HO3.out HB3.out)
              | (exfalso; have := HGD.out; omega)
end Go.Proofs.YtdkgieaanpfhcaaGreatDoor
