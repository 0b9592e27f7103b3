/-
  The law CandleFolds, walked. Conditions: as each theorem states.
-/
import Derived.Test.YtfgahmkfhlbogaaCaQ
namespace Go.Proofs.Ytfgahmkfhlbogaa.Ca
open Go.RowKit Go.Shelf
open Go.Proofs.Ytfgahmkfhlbogaa Go.Proofs.Ytfgahmkfhlbogaa.Hx

theorem ofM_nat {α : Type} (cd : α → Cd) (l : List α) (n : Nat) (hn : 1 ≤ n) : ofM cd l (n : Int) = spR cd l n := by
  unfold ofM
  rw [if_neg (by omega), Int.toNat_natCast]
def FoJ (w : World) (l : List Cd) (i : Value) (wr : World) : Prop := ∃ k : Nat, k ≤ l.length ∧ i = .int .i64 k ∧ Below w.heap.size w wr
set_option maxHeartbeats 4000000 in
set_option maxRecDepth 100000 in
theorem folds_walk (A : Option Addr) (c : Nat) (l : List Trd) (a b : Nat) (ha : a < 256) (hb : b < 256) (hl : l.length ≤ 100) (w : World) (RA : TRow w A l) (hok : ∀ p ∈ l, p.ok) :
    Calls Try.prog 4 #[.slice A l.length c, .int .u8 a, .int .u8 b] w fun e w' => e = .returned (.bool true) ∧ Below w.heap.size w w' := by
  have hlc : (l.length : Int) ≤ 100 := by omega
  have HRA := Lib.hid RA
  have hk := tk_ok hok
  have hkl : (l.map tk).length = l.length := by simp
  obtain ⟨n, hn⟩ : ∃ n, n = 1 + a % 9 := ⟨_, rfl⟩
  obtain ⟨m, hm⟩ : ∃ m, m = 1 + b % 9 := ⟨_, rfl⟩
  have hn1 : 1 ≤ n ∧ n ≤ 9 := by omega
  have hm1 : 1 ≤ m ∧ m ≤ 9 := by omega
  have hnm1 : 1 ≤ n * m := Nat.mul_pos (by omega) (by omega)
  have hnm2 : n * m ≤ 81 := Nat.mul_le_mul hn1.2 hm1.2
  have hnI : 1 + (a : Int) % 9 = (n : Int) := by omega
  have hmI : 1 + (b : Int) % 9 = (m : Int) := by omega
  have hmul : IntKind.i64.wrap ((n : Int) * (m : Int)) = ((n * m : Nat) : Int) := by
    rw [← Int.natCast_mul]; exact IntWalk.i64_in _ (by omega)
  have cT := Lib.hid (fun W R => trades_any A c l (by omega) W R)
  have cO1 := Lib.hid (fun A' W R => of_any A' l.length (l.map tk) (by rw [hkl]; omega) (by rw [hkl]; omega) (by omega) (tkd_ok hk) (n : Int) (by omega) W R)
  have cO2 := Lib.hid (fun A' W R => of_any A' l.length (l.map tk) (by rw [hkl]; omega) (by rw [hkl]; omega) (by omega) (tkd_ok hk) ((n * m : Nat) : Int) (by omega) W R)
  rw [hkl, ofM_nat _ _ _ hn1.1] at cO1
  rw [hkl, ofM_nat _ _ _ hnm1] at cO2
  simp only [Int.natCast_mul] at cO2
  have l1 := spR_len tkd (l.map tk) n hn1.1
  have ok1 := spR_ok tkd (l.map tk) (tkd_ok hk) n
  have cF := Lib.hid (fun A' c' W (h1 : (spR tkd (l.map tk) n).1.length ≤ c') (h2 : c' ≤ maxLen) R => fold_any A' c' (spR tkd (l.map tk) n).1 (by rw [hkl] at l1; omega) h1 (by unfold maxLen at h2; omega) ok1 (m : Int) (by omega) W R)
  rw [ofM_nat _ _ _ hm1.1] at cF
  have HM := Lib.hid (folds_math (l.map tk) (by rw [hkl]; omega) n m hn1.1 hm1.1)
  have HT := Lib.hid (folds_tall (l.map tk) (by rw [hkl]; omega) (n * m) hnm1)
  have HO := Lib.hid (spR_ok tkd (l.map tk) (tkd_ok hk) (n * m))
  have l3 := spR_len tkd (l.map tk) (n * m) hnm1
  rw [hkl] at l3
  clear RA hok hk hkl l1 ok1 hn hm
  generalize spR tkd (l.map tk) n = r1 at *
  generalize spR cdd r1.1 m = r2 at *
  generalize spR tkd (l.map tk) (n * m) = r3 at *
  generalize l.map tk = lt at *
  obtain ⟨x, e1⟩ := r1
  obtain ⟨y, e2⟩ := r2
  obtain ⟨z, e3⟩ := r3
  simp only at cF HM HT HO l3
  by_cases h1 : e1 = 0
  · by_cases h2 : e2 = 0
    · by_cases h3 : e3 = 0
      · subst h1 h2 h3
        have hyz := HM.out rfl rfl rfl
        subst hyz
        have HTA := Lib.hid (HT.out rfl)
        clear HM HT
        have hzl : (y.length : Int) ≤ 100 := by omega
        go_enter Try.func4, Try.ntmps4
        go_wp2_with (first
          | (go_at_call 5; (with_reducible refine (awake35_any _).mono ?_); rintro e w1 ⟨rfl, hb1⟩; have W1 := Lib.hid hb1; clear hb1)
          | (go_at_call 8; (with_reducible refine (cT.out _ (HRA.out.below W1.out)).mono ?_); rintro e w3 ⟨g3, rfl, hk3, hb3⟩
             have K3 := Lib.hid hk3
             have W3 := Lib.hid (below_on W1.out W1.out.size hb3)
             clear hk3 hb3 W1)
          | (go_at_call 7; (with_reducible refine (cO1.out _ _ K3.out).mono ?_); rintro e w4 ⟨X, cx, rfl, h1, h2, h3, h4⟩
             have O4 := Lib.hid (And.intro h1 h3)
             have W4 := Lib.hid (below_on W3.out W3.out.size h4)
             clear h1 h2 h3 h4 K3)
          | (go_at_call 11; (with_reducible refine (cF.out _ _ _ O4.out.2.1 O4.out.2.2 O4.out.1).mono ?_); rintro e w5 ⟨Y, cy, rfl, h1, h2, h3, h4⟩
             have O5 := Lib.hid h1
             have W5 := Lib.hid (below_on W4.out W4.out.size h4)
             clear h1 h2 h3 h4)
          | (go_at_call 8; (with_reducible refine (cT.out _ (HRA.out.below W5.out)).mono ?_); rintro e w6 ⟨g6, rfl, hk6, hb6⟩
             have K6 := Lib.hid hk6
             have W6 := Lib.hid (below_on W5.out W5.out.size hb6)
             have O6 := Lib.hid (O5.out.on hb6)
             clear hk6 hb6)
          | (go_at_call 7; (with_reducible refine (cO2.out _ _ K6.out).mono ?_); rintro e w7 ⟨Z, cz, rfl, h1, h2, h3, h4⟩
             have O7 := Lib.hid (And.intro (O6.out.on h4) h1)
             have W7 := Lib.hid (below_on W6.out W6.out.size h4)
             clear h1 h2 h3 h4))
        go_loopw [72] (fun i wr => ∃ k : Nat, k ≤ y.length ∧ i = .int .i64 k ∧ ∃ nn, wr = w7.drewN nn) (fun i _ => y.length - (intOf i).toNat)
        case atStart => exact ⟨0, by omega, rfl, 0, rfl⟩
        case round =>
          obtain ⟨k, hk, rfl, nn, rfl⟩ := hrel
          by_cases hky : k < y.length
          · obtain ⟨a', rfl, _, hca⟩ := O7.out.1 (by omega)
            obtain ⟨b', rfl, _, hcb⟩ := O7.out.2 (by omega)
            obtain ⟨x0, x1, x2, x3, x4, x5⟩ := hca k hky
            obtain ⟨y0, y1, y2, y3, y4, y5⟩ := hcb k hky
            have es := fun W => cdl_same y[k] W
            have hki : (0 : Int) ≤ (k : Int) := by omega
            have hkl : (k : Int) < (y.length : Int) := by omega
            have hkt : ((k : Int)).toNat = k := by omega
            have cb0 : decide (k < y.length) = true := decide_eq_true hky
            clear hca hcb
            generalize y[k] = cc at *
            have X1 : w7.cell? ⟨(a'.add (k * 6)).block, (a'.add (k * 6)).off + 1, none⟩ = some (.int .i64 cc.h) := x1
            have X2 : w7.cell? ⟨(a'.add (k * 6)).block, (a'.add (k * 6)).off + 2, none⟩ = some (.int .i64 cc.l) := x2
            have X3 : w7.cell? ⟨(a'.add (k * 6)).block, (a'.add (k * 6)).off + 3, none⟩ = some (.int .i64 cc.a) := x3
            have X4 : w7.cell? ⟨(a'.add (k * 6)).block, (a'.add (k * 6)).off + 4, none⟩ = some (.int .i64 cc.s) := x4
            have X5 : w7.cell? ⟨(a'.add (k * 6)).block, (a'.add (k * 6)).off + 5, none⟩ = some (.int .i64 cc.n) := x5
            have Y1 : w7.cell? ⟨(b'.add (k * 6)).block, (b'.add (k * 6)).off + 1, none⟩ = some (.int .i64 cc.h) := y1
            have Y2 : w7.cell? ⟨(b'.add (k * 6)).block, (b'.add (k * 6)).off + 2, none⟩ = some (.int .i64 cc.l) := y2
            have Y3 : w7.cell? ⟨(b'.add (k * 6)).block, (b'.add (k * 6)).off + 3, none⟩ = some (.int .i64 cc.a) := y3
            have Y4 : w7.cell? ⟨(b'.add (k * 6)).block, (b'.add (k * 6)).off + 4, none⟩ = some (.int .i64 cc.s) := y4
            have Y5 : w7.cell? ⟨(b'.add (k * 6)).block, (b'.add (k * 6)).off + 5, none⟩ = some (.int .i64 cc.n) := y5
            clear x1 x2 x3 x4 x5 y1 y2 y3 y4 y5
            go_upto_region 16 with fail
            go_quiet (fail)
            go_wp2
            go_roundw
            case rel => exact ⟨k + 1, by omega, by go_num, nn + nq, rfl⟩
            case measure => simp [intOf]; omega
          · obtain rfl : k = y.length := by omega
            go_wp2
            obtain ⟨w8, hw8⟩ : ∃ W, W = w7.drewN nn := ⟨_, rfl⟩
            have OZ := Lib.hid (O7.out.2.on (drewN_below w7 nn))
            have W8 := Lib.hid (below_on W7.out W7.out.size (drewN_below w7 nn))
            rw [← hw8] at OZ W8 ⊢
            clear hw8 O7 W7
            go_loopw [87] (fun i wr => FoJ w8 y i wr) (fun i _ => y.length - (intOf i).toNat)
            case atStart => exact ⟨0, by omega, rfl, Below.refl _ _⟩
            case round =>
              obtain ⟨k, hk, rfl, hbk⟩ := hrel
              by_cases hky : k < y.length
              · obtain ⟨b', rfl, hbb, hcb⟩ := OZ.out (by omega)
                have xc := (hcb k hky).on (by rw [block_add]; exact hbb) hbk
                obtain ⟨x0, x1, x2, x3, x4, x5⟩ := xc
                have okc := HO.out y[k] (List.getElem_mem hky)
                have tlc := HTA.out y[k] (List.getElem_mem hky)
                have hkl : (k : Int) < (y.length : Int) := by omega
                clear hcb
                generalize y[k] = cc at *
                have X1 : wr.cell? ⟨(b'.add (k * 6)).block, (b'.add (k * 6)).off + 1, none⟩ = some (.int .i64 cc.h) := x1
                have X2 : wr.cell? ⟨(b'.add (k * 6)).block, (b'.add (k * 6)).off + 2, none⟩ = some (.int .i64 cc.l) := x2
                have X3 : wr.cell? ⟨(b'.add (k * 6)).block, (b'.add (k * 6)).off + 3, none⟩ = some (.int .i64 cc.a) := x3
                have X4 : wr.cell? ⟨(b'.add (k * 6)).block, (b'.add (k * 6)).off + 4, none⟩ = some (.int .i64 cc.s) := x4
                have X5 : wr.cell? ⟨(b'.add (k * 6)).block, (b'.add (k * 6)).off + 5, none⟩ = some (.int .i64 cc.n) := x5
                have cS := Lib.hid (fun W => rsub_any cc.a cc.f okc.a okc.f W)
                have cB := Lib.hid (fun W => body_any cc okc W)
                have B8 := Lib.hid (heap_alloc_last wr (.cells (ccs cc) 42 (0, 0)))
                have b8 : Below wr.heap.size wr (wr.alloc (.cells (ccs cc) 42)) := (Below.refl _ wr).alloc (Nat.le_refl _) _
                have HBK := Lib.hid (below_on hbk hbk.size b8)
                unfold ccs at B8 HBK
                obtain ⟨t1, t2, t3⟩ := tlc
                have TL := Lib.hid (And.intro t1 (And.intro t2 t3))
                clear x1 x2 x3 x4 x5 hbk b8 okc t1 t2 t3
                go_upto_region 23 with (go_at_call 12; (with_reducible refine (cS.out _).mono ?_); rintro e w9 ⟨rfl, hb9⟩; have B9 := Lib.hid (hp_on B8.out hb9); have H9 := Lib.hid (below_on HBK.out HBK.out.size hb9); clear hb9)
                obtain ⟨t1, t2, t3⟩ := TL.out
                have g1 : decide (cc.l > cc.h) = false := decide_eq_false (by omega)
                have g2 : decide (cc.f < cc.l) = false := decide_eq_false (by omega)
                have g3 : decide (cc.a > cc.h) = false := decide_eq_false (by omega)
                clear t1 t2 t3 B8 HBK x0 X1 X2 X3 X4 X5
                go_cut [18, 19, 142] (fun _ _ s142 wx => s142 = .bool false ∧ Below w9.heap.size w9 wx)
                case first =>
                  by_cases hr : Am.rg (cc.a - cc.f)
                  · have hbd : body cc = cc.a - cc.f := by unfold body; rw [if_pos hr]
                    rw [Am.okv_in hr, Am.erv_in hr]
                    rw [hbd] at cB
                    clear hbd hr cS
                    generalize cc.a - cc.f = dd at *
                    refine wp_region_noPanic ?_
                    refine wp_region_held_drew (S := (fun wx => Below w9.heap.size w9 wx)) (by kernel_rfl) (⟨rfl, rfl, rfl, Nat.le_refl _, fun _ _ => rfl⟩) (fun HS => ?_)
                    refine wpAnyH_take (S := (fun wx => Below w9.heap.size w9 wx)) (i := 0) (oi := { dst := some 99, op := Go.Op.move (Go.Operand.tmp 19), type := 3, pos := "law.go:78", after := #[], guard := none }) (v := ?vg1) rfl (by kernel_rfl) (by kernel_rfl) (by kernel_rfl) (fun _ _ _ h => h) (Or.inl ⟨by rfl, ?yg1⟩) HS ?rg1
                    case yg1 => (intro wx hSw; skip; go_simp; first | done | with_reducible rfl | (intro hh; omega) | skip)
                    try simp only [Act.put, List.setIfInBounds_toArray, List.set_cons_zero, List.set_cons_succ]
                    refine wpAnyH_take (S := (fun wx => Below w9.heap.size w9 wx)) (i := 1) (oi := { dst := some 100, op := Go.Op.binOp Go.BinOp.eql 3 (Go.Operand.tmp 99) (Go.Operand.const (Go.Value.int Go.IntKind.i64 0)) 3, type := 4, pos := "law.go:78", after := #[{ on := 0, ground := Go.Ground.data }], guard := none }) (v := ?vg2) rfl (by kernel_rfl) (by kernel_rfl) (by kernel_rfl) (fun _ _ _ h => h) (Or.inl ⟨by rfl, ?yg2⟩) HS ?rg2
                    case yg2 => (intro wx hSw; skip; go_simp; first | done | with_reducible rfl | (intro hh; omega) | skip)
                    try simp only [Act.put, List.setIfInBounds_toArray, List.set_cons_zero, List.set_cons_succ]
                    refine wpAnyH_take (S := (fun wx => Below w9.heap.size w9 wx)) (i := 2) (oi := { dst := some 101, op := Go.Op.move (Go.Operand.tmp 100), type := 4, pos := "law.go:78", after := #[{ on := 1, ground := Go.Ground.data }], guard := none }) (v := ?vg3) rfl (by kernel_rfl) (by kernel_rfl) (by kernel_rfl) (fun _ _ _ h => h) (Or.inl ⟨by rfl, ?yg3⟩) HS ?rg3
                    case yg3 => (intro wx hSw; skip; go_simp; first | done | with_reducible rfl | (intro hh; omega) | skip)
                    try simp only [Act.put, List.setIfInBounds_toArray, List.set_cons_zero, List.set_cons_succ]
                    refine wpAnyH_take (S := (fun wx => Below w9.heap.size w9 wx)) (i := 3) (oi := { dst := some 102, op := Go.Op.load 42 (Go.Operand.tmp 17), type := 42, pos := "law.go:78", after := #[{ on := 2, ground := Go.Ground.guard }], guard := some (2, true) }) (v := ?vg4) rfl (by kernel_rfl) (by kernel_rfl) (by kernel_rfl) (fun _ _ _ h => h) (Or.inl ⟨by rfl, ?yg4⟩) HS ?rg4
                    case yg4 => (intro wx hSw; obtain ⟨⟨p0, p1, p2, p3, p4, p5⟩, -⟩ := row6 (hp_on B9.out hSw); go_simp; first | done | with_reducible rfl | (intro hh; omega) | skip)
                    try simp only [Act.put, List.setIfInBounds_toArray, List.set_cons_zero, List.set_cons_succ]
                    refine wpAnyH_take (S := (fun wx => Below w9.heap.size w9 wx)) (i := 5) (oi := { dst := some 104, op := Go.Op.move (Go.Operand.tmp 18), type := 2, pos := "law.go:78", after := #[{ on := 2, ground := Go.Ground.guard }], guard := some (2, true) }) (v := ?vg5) rfl (by kernel_rfl) (by kernel_rfl) (by kernel_rfl) (fun _ _ _ h => h) (Or.inl ⟨by rfl, ?yg5⟩) HS ?rg5
                    case yg5 => (intro wx hSw; skip; go_simp; first | done | with_reducible rfl | (intro hh; omega) | skip)
                    try simp only [Act.put, List.setIfInBounds_toArray, List.set_cons_zero, List.set_cons_succ]
                    refine wpAnyH_ready (rs := [4]) (by kernel_rfl) (by simp) ?_
                    refine AllReadyH.cons (o := { dst := some 103, op := Go.Op.call { callee := Go.Callee.value (Go.Operand.func 13), args := #[Go.Operand.tmp 102], argTypes := #[42] }, type := 2, pos := "law.go:78", after := #[{ on := 3, ground := Go.Ground.data }, { on := 2, ground := Go.Ground.chain }, { on := 2, ground := Go.Ground.guard }], guard := some (2, true) }) rfl (fun K hK => ?_) AllReadyH.nil
                    go_simp
                    refine (cB.out _).mono ?_; rintro e wn ⟨rfl, hbel⟩
                    have HS2 := HS.trans (hbel.mono HS.size)
                    clear HS hbel
                    refine hK.out _ _ HS2 (fun HS => ?_)
                    clear HS2 hK
                    try simp only [Act.put, List.setIfInBounds_toArray, List.set_cons_zero, List.set_cons_succ]
                    refine wpAnyH_take (S := (fun wx => Below w9.heap.size w9 wx)) (i := 6) (oi := { dst := some 105, op := Go.Op.binOp Go.BinOp.neq 2 (Go.Operand.tmp 103) (Go.Operand.tmp 104) 2, type := 4, pos := "law.go:78", after := #[{ on := 4, ground := Go.Ground.data }, { on := 5, ground := Go.Ground.data }, { on := 2, ground := Go.Ground.guard }], guard := some (2, true) }) (v := ?vg6) rfl (by kernel_rfl) (by kernel_rfl) (by kernel_rfl) (fun _ _ _ h => h) (Or.inl ⟨by rfl, ?yg6⟩) HS ?rg6
                    case yg6 => (intro wx hSw; skip; go_simp; first | done | with_reducible rfl | (intro hh; omega) | skip)
                    try simp only [Act.put, List.setIfInBounds_toArray, List.set_cons_zero, List.set_cons_succ]
                    refine wpAnyH_take (S := (fun wx => Below w9.heap.size w9 wx)) (i := 7) (oi := { dst := some 106, op := Go.Op.pick (Go.Operand.tmp 101) (Go.Operand.tmp 105) (Go.Operand.const (Go.Value.bool false)), type := 4, pos := "law.go:78", after := #[{ on := 2, ground := Go.Ground.data }, { on := 6, ground := Go.Ground.data }], guard := none }) (v := ?vg7) rfl (by kernel_rfl) (by kernel_rfl) (by kernel_rfl) (fun _ _ _ h => h) (Or.inl ⟨by rfl, ?yg7⟩) HS ?rg7
                    case yg7 => (intro wx hSw; skip; go_simp; first | done | with_reducible rfl | (intro hh; omega) | skip)
                    try simp only [Act.put, List.setIfInBounds_toArray, List.set_cons_zero, List.set_cons_succ]
                    refine wpAnyH_take (S := (fun wx => Below w9.heap.size w9 wx)) (i := 8) (oi := { dst := some 107, op := Go.Op.move (Go.Operand.tmp 106), type := 4, pos := "law.go:78", after := #[{ on := 7, ground := Go.Ground.data }, { on := 4, ground := Go.Ground.chain }], guard := none }) (v := ?vg8) rfl (by kernel_rfl) (by kernel_rfl) (by kernel_rfl) (fun _ _ _ h => h) (Or.inl ⟨by rfl, ?yg8⟩) HS ?rg8
                    case yg8 => (intro wx hSw; skip; go_simp; first | done | with_reducible rfl | (intro hh; omega) | skip)
                    try simp only [Act.put, List.setIfInBounds_toArray, List.set_cons_zero, List.set_cons_succ]
                    refine wpAnyH_take (S := (fun wx => Below w9.heap.size w9 wx)) (i := 9) (oi := { dst := some 108, op := Go.Op.move (Go.Operand.tmp 19), type := 3, pos := "law.go:78", after := #[{ on := 8, ground := Go.Ground.guard }], guard := some (8, false) }) (v := ?vg9) rfl (by kernel_rfl) (by kernel_rfl) (by kernel_rfl) (fun _ _ _ h => h) (Or.inl ⟨by rfl, ?yg9⟩) HS ?rg9
                    case yg9 => (intro wx hSw; skip; go_simp; first | done | with_reducible rfl | (intro hh; omega) | skip)
                    try simp only [Act.put, List.setIfInBounds_toArray, List.set_cons_zero, List.set_cons_succ]
                    refine wpAnyH_take (S := (fun wx => Below w9.heap.size w9 wx)) (i := 10) (oi := { dst := some 109, op := Go.Op.binOp Go.BinOp.neq 3 (Go.Operand.tmp 108) (Go.Operand.const (Go.Value.int Go.IntKind.i64 0)) 3, type := 4, pos := "law.go:78", after := #[{ on := 9, ground := Go.Ground.data }, { on := 8, ground := Go.Ground.guard }], guard := some (8, false) }) (v := ?vg10) rfl (by kernel_rfl) (by kernel_rfl) (by kernel_rfl) (fun _ _ _ h => h) (Or.inl ⟨by rfl, ?yg10⟩) HS ?rg10
                    case yg10 => (intro wx hSw; skip; go_simp; first | done | with_reducible rfl | (intro hh; omega) | skip)
                    try simp only [Act.put, List.setIfInBounds_toArray, List.set_cons_zero, List.set_cons_succ]
                    refine wpAnyH_take (S := (fun wx => Below w9.heap.size w9 wx)) (i := 11) (oi := { dst := some 110, op := Go.Op.move (Go.Operand.tmp 109), type := 4, pos := "law.go:78", after := #[{ on := 10, ground := Go.Ground.data }, { on := 8, ground := Go.Ground.chain }, { on := 8, ground := Go.Ground.guard }], guard := some (8, false) }) (v := ?vg11) rfl (by kernel_rfl) (by kernel_rfl) (by kernel_rfl) (fun _ _ _ h => h) (Or.inl ⟨by rfl, ?yg11⟩) HS ?rg11
                    case yg11 => (intro wx hSw; skip; go_simp; first | done | with_reducible rfl | (intro hh; omega) | skip)
                    try simp only [Act.put, List.setIfInBounds_toArray, List.set_cons_zero, List.set_cons_succ]
                    refine wpAnyH_take (S := (fun wx => Below w9.heap.size w9 wx)) (i := 12) (oi := { dst := some 111, op := Go.Op.load 42 (Go.Operand.tmp 17), type := 42, pos := "law.go:78", after := #[{ on := 11, ground := Go.Ground.guard }], guard := some (11, true) }) (v := undef) rfl (by kernel_rfl) (by kernel_rfl) (by kernel_rfl) (fun _ _ _ h => h) (Or.inr ⟨by rfl, rfl⟩) HS ?rg12
                    try simp only [Act.put, List.setIfInBounds_toArray, List.set_cons_zero, List.set_cons_succ]
                    refine wpAnyH_take (S := (fun wx => Below w9.heap.size w9 wx)) (i := 13) (oi := { dst := some 112, op := Go.Op.call { callee := Go.Callee.value (Go.Operand.func 13), args := #[Go.Operand.tmp 111], argTypes := #[42] }, type := 2, pos := "law.go:78", after := #[{ on := 12, ground := Go.Ground.data }, { on := 11, ground := Go.Ground.chain }, { on := 11, ground := Go.Ground.guard }], guard := some (11, true) }) (v := undef) rfl (by kernel_rfl) (by kernel_rfl) (by kernel_rfl) (fun _ _ _ h => h) (Or.inr ⟨by rfl, rfl⟩) HS ?rg13
                    try simp only [Act.put, List.setIfInBounds_toArray, List.set_cons_zero, List.set_cons_succ]
                    refine wpAnyH_take (S := (fun wx => Below w9.heap.size w9 wx)) (i := 14) (oi := { dst := some 113, op := Go.Op.binOp Go.BinOp.gtr 2 (Go.Operand.tmp 112) (Go.Operand.const (Go.Value.int Go.IntKind.i64 0)) 2, type := 4, pos := "law.go:78", after := #[{ on := 13, ground := Go.Ground.data }, { on := 11, ground := Go.Ground.guard }], guard := some (11, true) }) (v := undef) rfl (by kernel_rfl) (by kernel_rfl) (by kernel_rfl) (fun _ _ _ h => h) (Or.inr ⟨by rfl, rfl⟩) HS ?rg14
                    try simp only [Act.put, List.setIfInBounds_toArray, List.set_cons_zero, List.set_cons_succ]
                    refine wpAnyH_take (S := (fun wx => Below w9.heap.size w9 wx)) (i := 15) (oi := { dst := some 114, op := Go.Op.fieldAddr 42 (Go.Operand.tmp 17) 3, type := 0, pos := "law.go:78", after := #[{ on := 11, ground := Go.Ground.guard }], guard := some (11, true) }) (v := undef) rfl (by kernel_rfl) (by kernel_rfl) (by kernel_rfl) (fun _ _ _ h => h) (Or.inr ⟨by rfl, rfl⟩) HS ?rg15
                    try simp only [Act.put, List.setIfInBounds_toArray, List.set_cons_zero, List.set_cons_succ]
                    refine wpAnyH_take (S := (fun wx => Below w9.heap.size w9 wx)) (i := 16) (oi := { dst := some 115, op := Go.Op.load 2 (Go.Operand.tmp 114), type := 2, pos := "law.go:78", after := #[{ on := 15, ground := Go.Ground.data }, { on := 11, ground := Go.Ground.guard }], guard := some (11, true) }) (v := undef) rfl (by kernel_rfl) (by kernel_rfl) (by kernel_rfl) (fun _ _ _ h => h) (Or.inr ⟨by rfl, rfl⟩) HS ?rg16
                    try simp only [Act.put, List.setIfInBounds_toArray, List.set_cons_zero, List.set_cons_succ]
                    refine wpAnyH_take (S := (fun wx => Below w9.heap.size w9 wx)) (i := 17) (oi := { dst := some 116, op := Go.Op.fieldAddr 42 (Go.Operand.tmp 17) 0, type := 0, pos := "law.go:78", after := #[{ on := 11, ground := Go.Ground.guard }], guard := some (11, true) }) (v := undef) rfl (by kernel_rfl) (by kernel_rfl) (by kernel_rfl) (fun _ _ _ h => h) (Or.inr ⟨by rfl, rfl⟩) HS ?rg17
                    try simp only [Act.put, List.setIfInBounds_toArray, List.set_cons_zero, List.set_cons_succ]
                    refine wpAnyH_take (S := (fun wx => Below w9.heap.size w9 wx)) (i := 18) (oi := { dst := some 117, op := Go.Op.load 2 (Go.Operand.tmp 116), type := 2, pos := "law.go:78", after := #[{ on := 17, ground := Go.Ground.data }, { on := 11, ground := Go.Ground.guard }], guard := some (11, true) }) (v := undef) rfl (by kernel_rfl) (by kernel_rfl) (by kernel_rfl) (fun _ _ _ h => h) (Or.inr ⟨by rfl, rfl⟩) HS ?rg18
                    try simp only [Act.put, List.setIfInBounds_toArray, List.set_cons_zero, List.set_cons_succ]
                    refine wpAnyH_take (S := (fun wx => Below w9.heap.size w9 wx)) (i := 19) (oi := { dst := some 118, op := Go.Op.binOp Go.BinOp.gtr 2 (Go.Operand.tmp 115) (Go.Operand.tmp 117) 2, type := 4, pos := "law.go:78", after := #[{ on := 16, ground := Go.Ground.data }, { on := 18, ground := Go.Ground.data }, { on := 11, ground := Go.Ground.guard }], guard := some (11, true) }) (v := undef) rfl (by kernel_rfl) (by kernel_rfl) (by kernel_rfl) (fun _ _ _ h => h) (Or.inr ⟨by rfl, rfl⟩) HS ?rg19
                    try simp only [Act.put, List.setIfInBounds_toArray, List.set_cons_zero, List.set_cons_succ]
                    refine wpAnyH_take (S := (fun wx => Below w9.heap.size w9 wx)) (i := 20) (oi := { dst := some 119, op := Go.Op.binOp Go.BinOp.neq 4 (Go.Operand.tmp 113) (Go.Operand.tmp 118) 4, type := 4, pos := "law.go:78", after := #[{ on := 14, ground := Go.Ground.data }, { on := 19, ground := Go.Ground.data }, { on := 11, ground := Go.Ground.guard }], guard := some (11, true) }) (v := undef) rfl (by kernel_rfl) (by kernel_rfl) (by kernel_rfl) (fun _ _ _ h => h) (Or.inr ⟨by rfl, rfl⟩) HS ?rg20
                    try simp only [Act.put, List.setIfInBounds_toArray, List.set_cons_zero, List.set_cons_succ]
                    refine wpAnyH_take (S := (fun wx => Below w9.heap.size w9 wx)) (i := 21) (oi := { dst := some 120, op := Go.Op.pick (Go.Operand.tmp 110) (Go.Operand.tmp 119) (Go.Operand.const (Go.Value.bool false)), type := 4, pos := "law.go:78", after := #[{ on := 11, ground := Go.Ground.data }, { on := 20, ground := Go.Ground.data }, { on := 8, ground := Go.Ground.guard }], guard := some (8, false) }) (v := ?vg21) rfl (by kernel_rfl) (by kernel_rfl) (by kernel_rfl) (fun _ _ _ h => h) (Or.inl ⟨by rfl, ?yg21⟩) HS ?rg21
                    case yg21 => (intro wx hSw; skip; go_simp; first | done | with_reducible rfl | (intro hh; omega) | skip)
                    try simp only [Act.put, List.setIfInBounds_toArray, List.set_cons_zero, List.set_cons_succ]
                    refine wpAnyH_take (S := (fun wx => Below w9.heap.size w9 wx)) (i := 22) (oi := { dst := some 121, op := Go.Op.pick (Go.Operand.tmp 107) (Go.Operand.const (Go.Value.bool true)) (Go.Operand.tmp 120), type := 4, pos := "law.go:78", after := #[{ on := 8, ground := Go.Ground.data }, { on := 21, ground := Go.Ground.data }], guard := none }) (v := ?vg22) rfl (by kernel_rfl) (by kernel_rfl) (by kernel_rfl) (fun _ _ _ h => h) (Or.inl ⟨by rfl, ?yg22⟩) HS ?rg22
                    case yg22 => (intro wx hSw; skip; go_simp; first | done | with_reducible rfl | (intro hh; omega) | skip)
                    try simp only [Act.put, List.setIfInBounds_toArray, List.set_cons_zero, List.set_cons_succ]
                    refine wpAnyH_take (S := (fun wx => Below w9.heap.size w9 wx)) (i := 23) (oi := { dst := some 122, op := Go.Op.move (Go.Operand.tmp 121), type := 4, pos := "law.go:78", after := #[{ on := 22, ground := Go.Ground.data }, { on := 13, ground := Go.Ground.chain }], guard := none }) (v := ?vg23) rfl (by kernel_rfl) (by kernel_rfl) (by kernel_rfl) (fun _ _ _ h => h) (Or.inl ⟨by rfl, ?yg23⟩) HS ?rg23
                    case yg23 => (intro wx hSw; skip; go_simp; first | done | with_reducible rfl | (intro hh; omega) | skip)
                    try simp only [Act.put, List.setIfInBounds_toArray, List.set_cons_zero, List.set_cons_succ]
                    refine wpAnyH_take (S := (fun wx => Below w9.heap.size w9 wx)) (i := 24) (oi := { dst := some 123, op := Go.Op.fieldAddr 42 (Go.Operand.tmp 17) 2, type := 0, pos := "law.go:78", after := #[{ on := 23, ground := Go.Ground.guard }], guard := some (23, false) }) (v := ?vg24) rfl (by kernel_rfl) (by kernel_rfl) (by kernel_rfl) (fun _ _ _ h => h) (Or.inl ⟨by rfl, ?yg24⟩) HS ?rg24
                    case yg24 => (intro wx hSw; skip; go_simp; first | done | with_reducible rfl | (intro hh; omega) | skip)
                    try simp only [Act.put, List.setIfInBounds_toArray, List.set_cons_zero, List.set_cons_succ]
                    refine wpAnyH_take (S := (fun wx => Below w9.heap.size w9 wx)) (i := 25) (oi := { dst := some 124, op := Go.Op.load 2 (Go.Operand.tmp 123), type := 2, pos := "law.go:78", after := #[{ on := 24, ground := Go.Ground.data }, { on := 23, ground := Go.Ground.guard }], guard := some (23, false) }) (v := ?vg25) rfl (by kernel_rfl) (by kernel_rfl) (by kernel_rfl) (fun _ _ _ h => h) (Or.inl ⟨by rfl, ?yg25⟩) HS ?rg25
                    case yg25 => (intro wx hSw; obtain ⟨⟨p0, p1, p2, p3, p4, p5⟩, -⟩ := row6 (hp_on B9.out hSw); go_simp; first | done | with_reducible rfl | (intro hh; omega) | skip)
                    try simp only [Act.put, List.setIfInBounds_toArray, List.set_cons_zero, List.set_cons_succ]
                    refine wpAnyH_take (S := (fun wx => Below w9.heap.size w9 wx)) (i := 26) (oi := { dst := some 125, op := Go.Op.fieldAddr 42 (Go.Operand.tmp 17) 1, type := 0, pos := "law.go:78", after := #[{ on := 23, ground := Go.Ground.guard }], guard := some (23, false) }) (v := ?vg26) rfl (by kernel_rfl) (by kernel_rfl) (by kernel_rfl) (fun _ _ _ h => h) (Or.inl ⟨by rfl, ?yg26⟩) HS ?rg26
                    case yg26 => (intro wx hSw; skip; go_simp; first | done | with_reducible rfl | (intro hh; omega) | skip)
                    try simp only [Act.put, List.setIfInBounds_toArray, List.set_cons_zero, List.set_cons_succ]
                    refine wpAnyH_take (S := (fun wx => Below w9.heap.size w9 wx)) (i := 27) (oi := { dst := some 126, op := Go.Op.load 2 (Go.Operand.tmp 125), type := 2, pos := "law.go:78", after := #[{ on := 26, ground := Go.Ground.data }, { on := 23, ground := Go.Ground.guard }], guard := some (23, false) }) (v := ?vg27) rfl (by kernel_rfl) (by kernel_rfl) (by kernel_rfl) (fun _ _ _ h => h) (Or.inl ⟨by rfl, ?yg27⟩) HS ?rg27
                    case yg27 => (intro wx hSw; obtain ⟨⟨p0, p1, p2, p3, p4, p5⟩, -⟩ := row6 (hp_on B9.out hSw); go_simp; first | done | with_reducible rfl | (intro hh; omega) | skip)
                    try simp only [Act.put, List.setIfInBounds_toArray, List.set_cons_zero, List.set_cons_succ]
                    refine wpAnyH_take (S := (fun wx => Below w9.heap.size w9 wx)) (i := 28) (oi := { dst := some 127, op := Go.Op.binOp Go.BinOp.gtr 2 (Go.Operand.tmp 124) (Go.Operand.tmp 126) 2, type := 4, pos := "law.go:78", after := #[{ on := 25, ground := Go.Ground.data }, { on := 27, ground := Go.Ground.data }, { on := 23, ground := Go.Ground.guard }], guard := some (23, false) }) (v := ?vg28) rfl (by kernel_rfl) (by kernel_rfl) (by kernel_rfl) (fun _ _ _ h => h) (Or.inl ⟨by rfl, ?yg28⟩) HS ?rg28
                    case yg28 => (intro wx hSw; skip; go_simp; first | done | with_reducible rfl | (intro hh; omega) | skip)
                    try simp only [Act.put, List.setIfInBounds_toArray, List.set_cons_zero, List.set_cons_succ]
                    refine wpAnyH_take (S := (fun wx => Below w9.heap.size w9 wx)) (i := 29) (oi := { dst := some 128, op := Go.Op.pick (Go.Operand.tmp 122) (Go.Operand.const (Go.Value.bool true)) (Go.Operand.tmp 127), type := 4, pos := "law.go:78", after := #[{ on := 23, ground := Go.Ground.data }, { on := 28, ground := Go.Ground.data }], guard := none }) (v := ?vg29) rfl (by kernel_rfl) (by kernel_rfl) (by kernel_rfl) (fun _ _ _ h => h) (Or.inl ⟨by rfl, ?yg29⟩) HS ?rg29
                    case yg29 => (intro wx hSw; skip; go_simp; first | done | with_reducible rfl | (intro hh; omega) | skip)
                    try simp only [Act.put, List.setIfInBounds_toArray, List.set_cons_zero, List.set_cons_succ]
                    refine wpAnyH_take (S := (fun wx => Below w9.heap.size w9 wx)) (i := 30) (oi := { dst := some 129, op := Go.Op.move (Go.Operand.tmp 128), type := 4, pos := "law.go:78", after := #[{ on := 29, ground := Go.Ground.data }, { on := 23, ground := Go.Ground.chain }], guard := none }) (v := ?vg30) rfl (by kernel_rfl) (by kernel_rfl) (by kernel_rfl) (fun _ _ _ h => h) (Or.inl ⟨by rfl, ?yg30⟩) HS ?rg30
                    case yg30 => (intro wx hSw; skip; go_simp; first | done | with_reducible rfl | (intro hh; omega) | skip)
                    try simp only [Act.put, List.setIfInBounds_toArray, List.set_cons_zero, List.set_cons_succ]
                    refine wpAnyH_take (S := (fun wx => Below w9.heap.size w9 wx)) (i := 31) (oi := { dst := some 130, op := Go.Op.fieldAddr 42 (Go.Operand.tmp 17) 0, type := 0, pos := "law.go:78", after := #[{ on := 30, ground := Go.Ground.guard }], guard := some (30, false) }) (v := ?vg31) rfl (by kernel_rfl) (by kernel_rfl) (by kernel_rfl) (fun _ _ _ h => h) (Or.inl ⟨by rfl, ?yg31⟩) HS ?rg31
                    case yg31 => (intro wx hSw; skip; go_simp; first | done | with_reducible rfl | (intro hh; omega) | skip)
                    try simp only [Act.put, List.setIfInBounds_toArray, List.set_cons_zero, List.set_cons_succ]
                    refine wpAnyH_take (S := (fun wx => Below w9.heap.size w9 wx)) (i := 32) (oi := { dst := some 131, op := Go.Op.load 2 (Go.Operand.tmp 130), type := 2, pos := "law.go:78", after := #[{ on := 31, ground := Go.Ground.data }, { on := 30, ground := Go.Ground.guard }], guard := some (30, false) }) (v := ?vg32) rfl (by kernel_rfl) (by kernel_rfl) (by kernel_rfl) (fun _ _ _ h => h) (Or.inl ⟨by rfl, ?yg32⟩) HS ?rg32
                    case yg32 => (intro wx hSw; obtain ⟨⟨p0, p1, p2, p3, p4, p5⟩, -⟩ := row6 (hp_on B9.out hSw); go_simp; first | done | with_reducible rfl | (intro hh; omega) | skip)
                    try simp only [Act.put, List.setIfInBounds_toArray, List.set_cons_zero, List.set_cons_succ]
                    refine wpAnyH_take (S := (fun wx => Below w9.heap.size w9 wx)) (i := 33) (oi := { dst := some 132, op := Go.Op.fieldAddr 42 (Go.Operand.tmp 17) 2, type := 0, pos := "law.go:78", after := #[{ on := 30, ground := Go.Ground.guard }], guard := some (30, false) }) (v := ?vg33) rfl (by kernel_rfl) (by kernel_rfl) (by kernel_rfl) (fun _ _ _ h => h) (Or.inl ⟨by rfl, ?yg33⟩) HS ?rg33
                    case yg33 => (intro wx hSw; skip; go_simp; first | done | with_reducible rfl | (intro hh; omega) | skip)
                    try simp only [Act.put, List.setIfInBounds_toArray, List.set_cons_zero, List.set_cons_succ]
                    refine wpAnyH_take (S := (fun wx => Below w9.heap.size w9 wx)) (i := 34) (oi := { dst := some 133, op := Go.Op.load 2 (Go.Operand.tmp 132), type := 2, pos := "law.go:78", after := #[{ on := 33, ground := Go.Ground.data }, { on := 30, ground := Go.Ground.guard }], guard := some (30, false) }) (v := ?vg34) rfl (by kernel_rfl) (by kernel_rfl) (by kernel_rfl) (fun _ _ _ h => h) (Or.inl ⟨by rfl, ?yg34⟩) HS ?rg34
                    case yg34 => (intro wx hSw; obtain ⟨⟨p0, p1, p2, p3, p4, p5⟩, -⟩ := row6 (hp_on B9.out hSw); go_simp; first | done | with_reducible rfl | (intro hh; omega) | skip)
                    try simp only [Act.put, List.setIfInBounds_toArray, List.set_cons_zero, List.set_cons_succ]
                    refine wpAnyH_take (S := (fun wx => Below w9.heap.size w9 wx)) (i := 35) (oi := { dst := some 134, op := Go.Op.binOp Go.BinOp.lss 2 (Go.Operand.tmp 131) (Go.Operand.tmp 133) 2, type := 4, pos := "law.go:78", after := #[{ on := 32, ground := Go.Ground.data }, { on := 34, ground := Go.Ground.data }, { on := 30, ground := Go.Ground.guard }], guard := some (30, false) }) (v := ?vg35) rfl (by kernel_rfl) (by kernel_rfl) (by kernel_rfl) (fun _ _ _ h => h) (Or.inl ⟨by rfl, ?yg35⟩) HS ?rg35
                    case yg35 => (intro wx hSw; skip; go_simp; first | done | with_reducible rfl | (intro hh; omega) | skip)
                    try simp only [Act.put, List.setIfInBounds_toArray, List.set_cons_zero, List.set_cons_succ]
                    refine wpAnyH_take (S := (fun wx => Below w9.heap.size w9 wx)) (i := 36) (oi := { dst := some 135, op := Go.Op.pick (Go.Operand.tmp 129) (Go.Operand.const (Go.Value.bool true)) (Go.Operand.tmp 134), type := 4, pos := "law.go:78", after := #[{ on := 30, ground := Go.Ground.data }, { on := 35, ground := Go.Ground.data }], guard := none }) (v := ?vg36) rfl (by kernel_rfl) (by kernel_rfl) (by kernel_rfl) (fun _ _ _ h => h) (Or.inl ⟨by rfl, ?yg36⟩) HS ?rg36
                    case yg36 => (intro wx hSw; skip; go_simp; first | done | with_reducible rfl | (intro hh; omega) | skip)
                    try simp only [Act.put, List.setIfInBounds_toArray, List.set_cons_zero, List.set_cons_succ]
                    refine wpAnyH_take (S := (fun wx => Below w9.heap.size w9 wx)) (i := 37) (oi := { dst := some 136, op := Go.Op.move (Go.Operand.tmp 135), type := 4, pos := "law.go:78", after := #[{ on := 36, ground := Go.Ground.data }, { on := 30, ground := Go.Ground.chain }], guard := none }) (v := ?vg37) rfl (by kernel_rfl) (by kernel_rfl) (by kernel_rfl) (fun _ _ _ h => h) (Or.inl ⟨by rfl, ?yg37⟩) HS ?rg37
                    case yg37 => (intro wx hSw; skip; go_simp; first | done | with_reducible rfl | (intro hh; omega) | skip)
                    try simp only [Act.put, List.setIfInBounds_toArray, List.set_cons_zero, List.set_cons_succ]
                    refine wpAnyH_take (S := (fun wx => Below w9.heap.size w9 wx)) (i := 38) (oi := { dst := some 137, op := Go.Op.fieldAddr 42 (Go.Operand.tmp 17) 3, type := 0, pos := "law.go:78", after := #[{ on := 37, ground := Go.Ground.guard }], guard := some (37, false) }) (v := ?vg38) rfl (by kernel_rfl) (by kernel_rfl) (by kernel_rfl) (fun _ _ _ h => h) (Or.inl ⟨by rfl, ?yg38⟩) HS ?rg38
                    case yg38 => (intro wx hSw; skip; go_simp; first | done | with_reducible rfl | (intro hh; omega) | skip)
                    try simp only [Act.put, List.setIfInBounds_toArray, List.set_cons_zero, List.set_cons_succ]
                    refine wpAnyH_take (S := (fun wx => Below w9.heap.size w9 wx)) (i := 39) (oi := { dst := some 138, op := Go.Op.load 2 (Go.Operand.tmp 137), type := 2, pos := "law.go:78", after := #[{ on := 38, ground := Go.Ground.data }, { on := 37, ground := Go.Ground.guard }], guard := some (37, false) }) (v := ?vg39) rfl (by kernel_rfl) (by kernel_rfl) (by kernel_rfl) (fun _ _ _ h => h) (Or.inl ⟨by rfl, ?yg39⟩) HS ?rg39
                    case yg39 => (intro wx hSw; obtain ⟨⟨p0, p1, p2, p3, p4, p5⟩, -⟩ := row6 (hp_on B9.out hSw); go_simp; first | done | with_reducible rfl | (intro hh; omega) | skip)
                    try simp only [Act.put, List.setIfInBounds_toArray, List.set_cons_zero, List.set_cons_succ]
                    refine wpAnyH_take (S := (fun wx => Below w9.heap.size w9 wx)) (i := 40) (oi := { dst := some 139, op := Go.Op.fieldAddr 42 (Go.Operand.tmp 17) 1, type := 0, pos := "law.go:78", after := #[{ on := 37, ground := Go.Ground.guard }], guard := some (37, false) }) (v := ?vg40) rfl (by kernel_rfl) (by kernel_rfl) (by kernel_rfl) (fun _ _ _ h => h) (Or.inl ⟨by rfl, ?yg40⟩) HS ?rg40
                    case yg40 => (intro wx hSw; skip; go_simp; first | done | with_reducible rfl | (intro hh; omega) | skip)
                    try simp only [Act.put, List.setIfInBounds_toArray, List.set_cons_zero, List.set_cons_succ]
                    refine wpAnyH_take (S := (fun wx => Below w9.heap.size w9 wx)) (i := 41) (oi := { dst := some 140, op := Go.Op.load 2 (Go.Operand.tmp 139), type := 2, pos := "law.go:78", after := #[{ on := 40, ground := Go.Ground.data }, { on := 37, ground := Go.Ground.guard }], guard := some (37, false) }) (v := ?vg41) rfl (by kernel_rfl) (by kernel_rfl) (by kernel_rfl) (fun _ _ _ h => h) (Or.inl ⟨by rfl, ?yg41⟩) HS ?rg41
                    case yg41 => (intro wx hSw; obtain ⟨⟨p0, p1, p2, p3, p4, p5⟩, -⟩ := row6 (hp_on B9.out hSw); go_simp; first | done | with_reducible rfl | (intro hh; omega) | skip)
                    try simp only [Act.put, List.setIfInBounds_toArray, List.set_cons_zero, List.set_cons_succ]
                    refine wpAnyH_take (S := (fun wx => Below w9.heap.size w9 wx)) (i := 42) (oi := { dst := some 141, op := Go.Op.binOp Go.BinOp.gtr 2 (Go.Operand.tmp 138) (Go.Operand.tmp 140) 2, type := 4, pos := "law.go:78", after := #[{ on := 39, ground := Go.Ground.data }, { on := 41, ground := Go.Ground.data }, { on := 37, ground := Go.Ground.guard }], guard := some (37, false) }) (v := ?vg42) rfl (by kernel_rfl) (by kernel_rfl) (by kernel_rfl) (fun _ _ _ h => h) (Or.inl ⟨by rfl, ?yg42⟩) HS ?rg42
                    case yg42 => (intro wx hSw; skip; go_simp; first | done | with_reducible rfl | (intro hh; omega) | skip)
                    try simp only [Act.put, List.setIfInBounds_toArray, List.set_cons_zero, List.set_cons_succ]
                    refine wpAnyH_take (S := (fun wx => Below w9.heap.size w9 wx)) (i := 43) (oi := { dst := some 142, op := Go.Op.pick (Go.Operand.tmp 136) (Go.Operand.const (Go.Value.bool true)) (Go.Operand.tmp 141), type := 4, pos := "law.go:78", after := #[{ on := 37, ground := Go.Ground.data }, { on := 42, ground := Go.Ground.data }], guard := none }) (v := ?vg43) rfl (by kernel_rfl) (by kernel_rfl) (by kernel_rfl) (fun _ _ _ h => h) (Or.inl ⟨by rfl, ?yg43⟩) HS ?rg43
                    case yg43 => (intro wx hSw; skip; go_simp; first | done | with_reducible rfl | (intro hh; omega) | skip)
                    try simp only [Act.put, List.setIfInBounds_toArray, List.set_cons_zero, List.set_cons_succ]
                    refine wpAnyH_done (by kernel_rfl) ?_ _
                    refine NoPanic.normal ?_
                    go_wp2
                    go_meet
                    case rel => exact ⟨rfl, HS⟩
                  · have e0 := Am.erv_out hr
                    have e1 := Am.okv_out hr
                    rw [e0, e1]
                    clear e0 e1 cS
                    by_cases hlt : cc.a < cc.f
                    · have hbd : body cc = -9223372036854775808 := by unfold body; rw [if_neg hr, if_pos hlt]
                      have g4 : decide (cc.a > cc.f) = false := decide_eq_false (by omega)
                      rw [hbd] at cB
                      clear hbd hr hlt
                      refine wp_region_noPanic ?_
                      refine wp_region_held_drew (S := (fun wx => Below w9.heap.size w9 wx)) (by kernel_rfl) (⟨rfl, rfl, rfl, Nat.le_refl _, fun _ _ => rfl⟩) (fun HS => ?_)
                      refine wpAnyH_take (S := (fun wx => Below w9.heap.size w9 wx)) (i := 0) (oi := { dst := some 99, op := Go.Op.move (Go.Operand.tmp 19), type := 3, pos := "law.go:78", after := #[], guard := none }) (v := ?vh1) rfl (by kernel_rfl) (by kernel_rfl) (by kernel_rfl) (fun _ _ _ h => h) (Or.inl ⟨by rfl, ?yh1⟩) HS ?rh1
                      case yh1 => (intro wx hSw; skip; go_simp; first | done | with_reducible rfl | (intro hh; omega) | skip)
                      try simp only [Act.put, List.setIfInBounds_toArray, List.set_cons_zero, List.set_cons_succ]
                      refine wpAnyH_take (S := (fun wx => Below w9.heap.size w9 wx)) (i := 1) (oi := { dst := some 100, op := Go.Op.binOp Go.BinOp.eql 3 (Go.Operand.tmp 99) (Go.Operand.const (Go.Value.int Go.IntKind.i64 0)) 3, type := 4, pos := "law.go:78", after := #[{ on := 0, ground := Go.Ground.data }], guard := none }) (v := ?vh2) rfl (by kernel_rfl) (by kernel_rfl) (by kernel_rfl) (fun _ _ _ h => h) (Or.inl ⟨by rfl, ?yh2⟩) HS ?rh2
                      case yh2 => (intro wx hSw; skip; go_simp; first | done | with_reducible rfl | (intro hh; omega) | skip)
                      try simp only [Act.put, List.setIfInBounds_toArray, List.set_cons_zero, List.set_cons_succ]
                      refine wpAnyH_take (S := (fun wx => Below w9.heap.size w9 wx)) (i := 2) (oi := { dst := some 101, op := Go.Op.move (Go.Operand.tmp 100), type := 4, pos := "law.go:78", after := #[{ on := 1, ground := Go.Ground.data }], guard := none }) (v := ?vh3) rfl (by kernel_rfl) (by kernel_rfl) (by kernel_rfl) (fun _ _ _ h => h) (Or.inl ⟨by rfl, ?yh3⟩) HS ?rh3
                      case yh3 => (intro wx hSw; skip; go_simp; first | done | with_reducible rfl | (intro hh; omega) | skip)
                      try simp only [Act.put, List.setIfInBounds_toArray, List.set_cons_zero, List.set_cons_succ]
                      refine wpAnyH_take (S := (fun wx => Below w9.heap.size w9 wx)) (i := 3) (oi := { dst := some 102, op := Go.Op.load 42 (Go.Operand.tmp 17), type := 42, pos := "law.go:78", after := #[{ on := 2, ground := Go.Ground.guard }], guard := some (2, true) }) (v := undef) rfl (by kernel_rfl) (by kernel_rfl) (by kernel_rfl) (fun _ _ _ h => h) (Or.inr ⟨by rfl, rfl⟩) HS ?rh4
                      try simp only [Act.put, List.setIfInBounds_toArray, List.set_cons_zero, List.set_cons_succ]
                      refine wpAnyH_take (S := (fun wx => Below w9.heap.size w9 wx)) (i := 4) (oi := { dst := some 103, op := Go.Op.call { callee := Go.Callee.value (Go.Operand.func 13), args := #[Go.Operand.tmp 102], argTypes := #[42] }, type := 2, pos := "law.go:78", after := #[{ on := 3, ground := Go.Ground.data }, { on := 2, ground := Go.Ground.chain }, { on := 2, ground := Go.Ground.guard }], guard := some (2, true) }) (v := undef) rfl (by kernel_rfl) (by kernel_rfl) (by kernel_rfl) (fun _ _ _ h => h) (Or.inr ⟨by rfl, rfl⟩) HS ?rh5
                      try simp only [Act.put, List.setIfInBounds_toArray, List.set_cons_zero, List.set_cons_succ]
                      refine wpAnyH_take (S := (fun wx => Below w9.heap.size w9 wx)) (i := 5) (oi := { dst := some 104, op := Go.Op.move (Go.Operand.tmp 18), type := 2, pos := "law.go:78", after := #[{ on := 2, ground := Go.Ground.guard }], guard := some (2, true) }) (v := undef) rfl (by kernel_rfl) (by kernel_rfl) (by kernel_rfl) (fun _ _ _ h => h) (Or.inr ⟨by rfl, rfl⟩) HS ?rh6
                      try simp only [Act.put, List.setIfInBounds_toArray, List.set_cons_zero, List.set_cons_succ]
                      refine wpAnyH_take (S := (fun wx => Below w9.heap.size w9 wx)) (i := 6) (oi := { dst := some 105, op := Go.Op.binOp Go.BinOp.neq 2 (Go.Operand.tmp 103) (Go.Operand.tmp 104) 2, type := 4, pos := "law.go:78", after := #[{ on := 4, ground := Go.Ground.data }, { on := 5, ground := Go.Ground.data }, { on := 2, ground := Go.Ground.guard }], guard := some (2, true) }) (v := undef) rfl (by kernel_rfl) (by kernel_rfl) (by kernel_rfl) (fun _ _ _ h => h) (Or.inr ⟨by rfl, rfl⟩) HS ?rh7
                      try simp only [Act.put, List.setIfInBounds_toArray, List.set_cons_zero, List.set_cons_succ]
                      refine wpAnyH_take (S := (fun wx => Below w9.heap.size w9 wx)) (i := 7) (oi := { dst := some 106, op := Go.Op.pick (Go.Operand.tmp 101) (Go.Operand.tmp 105) (Go.Operand.const (Go.Value.bool false)), type := 4, pos := "law.go:78", after := #[{ on := 2, ground := Go.Ground.data }, { on := 6, ground := Go.Ground.data }], guard := none }) (v := ?vh8) rfl (by kernel_rfl) (by kernel_rfl) (by kernel_rfl) (fun _ _ _ h => h) (Or.inl ⟨by rfl, ?yh8⟩) HS ?rh8
                      case yh8 => (intro wx hSw; skip; go_simp; first | done | with_reducible rfl | (intro hh; omega) | skip)
                      try simp only [Act.put, List.setIfInBounds_toArray, List.set_cons_zero, List.set_cons_succ]
                      refine wpAnyH_take (S := (fun wx => Below w9.heap.size w9 wx)) (i := 8) (oi := { dst := some 107, op := Go.Op.move (Go.Operand.tmp 106), type := 4, pos := "law.go:78", after := #[{ on := 7, ground := Go.Ground.data }, { on := 4, ground := Go.Ground.chain }], guard := none }) (v := ?vh9) rfl (by kernel_rfl) (by kernel_rfl) (by kernel_rfl) (fun _ _ _ h => h) (Or.inl ⟨by rfl, ?yh9⟩) HS ?rh9
                      case yh9 => (intro wx hSw; skip; go_simp; first | done | with_reducible rfl | (intro hh; omega) | skip)
                      try simp only [Act.put, List.setIfInBounds_toArray, List.set_cons_zero, List.set_cons_succ]
                      refine wpAnyH_take (S := (fun wx => Below w9.heap.size w9 wx)) (i := 9) (oi := { dst := some 108, op := Go.Op.move (Go.Operand.tmp 19), type := 3, pos := "law.go:78", after := #[{ on := 8, ground := Go.Ground.guard }], guard := some (8, false) }) (v := ?vh10) rfl (by kernel_rfl) (by kernel_rfl) (by kernel_rfl) (fun _ _ _ h => h) (Or.inl ⟨by rfl, ?yh10⟩) HS ?rh10
                      case yh10 => (intro wx hSw; skip; go_simp; first | done | with_reducible rfl | (intro hh; omega) | skip)
                      try simp only [Act.put, List.setIfInBounds_toArray, List.set_cons_zero, List.set_cons_succ]
                      refine wpAnyH_take (S := (fun wx => Below w9.heap.size w9 wx)) (i := 10) (oi := { dst := some 109, op := Go.Op.binOp Go.BinOp.neq 3 (Go.Operand.tmp 108) (Go.Operand.const (Go.Value.int Go.IntKind.i64 0)) 3, type := 4, pos := "law.go:78", after := #[{ on := 9, ground := Go.Ground.data }, { on := 8, ground := Go.Ground.guard }], guard := some (8, false) }) (v := ?vh11) rfl (by kernel_rfl) (by kernel_rfl) (by kernel_rfl) (fun _ _ _ h => h) (Or.inl ⟨by rfl, ?yh11⟩) HS ?rh11
                      case yh11 => (intro wx hSw; skip; go_simp; first | done | with_reducible rfl | (intro hh; omega) | skip)
                      try simp only [Act.put, List.setIfInBounds_toArray, List.set_cons_zero, List.set_cons_succ]
                      refine wpAnyH_take (S := (fun wx => Below w9.heap.size w9 wx)) (i := 11) (oi := { dst := some 110, op := Go.Op.move (Go.Operand.tmp 109), type := 4, pos := "law.go:78", after := #[{ on := 10, ground := Go.Ground.data }, { on := 8, ground := Go.Ground.chain }, { on := 8, ground := Go.Ground.guard }], guard := some (8, false) }) (v := ?vh12) rfl (by kernel_rfl) (by kernel_rfl) (by kernel_rfl) (fun _ _ _ h => h) (Or.inl ⟨by rfl, ?yh12⟩) HS ?rh12
                      case yh12 => (intro wx hSw; skip; go_simp; first | done | with_reducible rfl | (intro hh; omega) | skip)
                      try simp only [Act.put, List.setIfInBounds_toArray, List.set_cons_zero, List.set_cons_succ]
                      refine wpAnyH_take (S := (fun wx => Below w9.heap.size w9 wx)) (i := 12) (oi := { dst := some 111, op := Go.Op.load 42 (Go.Operand.tmp 17), type := 42, pos := "law.go:78", after := #[{ on := 11, ground := Go.Ground.guard }], guard := some (11, true) }) (v := ?vh13) rfl (by kernel_rfl) (by kernel_rfl) (by kernel_rfl) (fun _ _ _ h => h) (Or.inl ⟨by rfl, ?yh13⟩) HS ?rh13
                      case yh13 => (intro wx hSw; obtain ⟨⟨p0, p1, p2, p3, p4, p5⟩, -⟩ := row6 (hp_on B9.out hSw); go_simp; first | done | with_reducible rfl | (intro hh; omega) | skip)
                      try simp only [Act.put, List.setIfInBounds_toArray, List.set_cons_zero, List.set_cons_succ]
                      refine wpAnyH_take (S := (fun wx => Below w9.heap.size w9 wx)) (i := 15) (oi := { dst := some 114, op := Go.Op.fieldAddr 42 (Go.Operand.tmp 17) 3, type := 0, pos := "law.go:78", after := #[{ on := 11, ground := Go.Ground.guard }], guard := some (11, true) }) (v := ?vh14) rfl (by kernel_rfl) (by kernel_rfl) (by kernel_rfl) (fun _ _ _ h => h) (Or.inl ⟨by rfl, ?yh14⟩) HS ?rh14
                      case yh14 => (intro wx hSw; skip; go_simp; first | done | with_reducible rfl | (intro hh; omega) | skip)
                      try simp only [Act.put, List.setIfInBounds_toArray, List.set_cons_zero, List.set_cons_succ]
                      refine wpAnyH_take (S := (fun wx => Below w9.heap.size w9 wx)) (i := 16) (oi := { dst := some 115, op := Go.Op.load 2 (Go.Operand.tmp 114), type := 2, pos := "law.go:78", after := #[{ on := 15, ground := Go.Ground.data }, { on := 11, ground := Go.Ground.guard }], guard := some (11, true) }) (v := ?vh15) rfl (by kernel_rfl) (by kernel_rfl) (by kernel_rfl) (fun _ _ _ h => h) (Or.inl ⟨by rfl, ?yh15⟩) HS ?rh15
                      case yh15 => (intro wx hSw; obtain ⟨⟨p0, p1, p2, p3, p4, p5⟩, -⟩ := row6 (hp_on B9.out hSw); go_simp; first | done | with_reducible rfl | (intro hh; omega) | skip)
                      try simp only [Act.put, List.setIfInBounds_toArray, List.set_cons_zero, List.set_cons_succ]
                      refine wpAnyH_take (S := (fun wx => Below w9.heap.size w9 wx)) (i := 17) (oi := { dst := some 116, op := Go.Op.fieldAddr 42 (Go.Operand.tmp 17) 0, type := 0, pos := "law.go:78", after := #[{ on := 11, ground := Go.Ground.guard }], guard := some (11, true) }) (v := ?vh16) rfl (by kernel_rfl) (by kernel_rfl) (by kernel_rfl) (fun _ _ _ h => h) (Or.inl ⟨by rfl, ?yh16⟩) HS ?rh16
                      case yh16 => (intro wx hSw; skip; go_simp; first | done | with_reducible rfl | (intro hh; omega) | skip)
                      try simp only [Act.put, List.setIfInBounds_toArray, List.set_cons_zero, List.set_cons_succ]
                      refine wpAnyH_take (S := (fun wx => Below w9.heap.size w9 wx)) (i := 18) (oi := { dst := some 117, op := Go.Op.load 2 (Go.Operand.tmp 116), type := 2, pos := "law.go:78", after := #[{ on := 17, ground := Go.Ground.data }, { on := 11, ground := Go.Ground.guard }], guard := some (11, true) }) (v := ?vh17) rfl (by kernel_rfl) (by kernel_rfl) (by kernel_rfl) (fun _ _ _ h => h) (Or.inl ⟨by rfl, ?yh17⟩) HS ?rh17
                      case yh17 => (intro wx hSw; obtain ⟨⟨p0, p1, p2, p3, p4, p5⟩, -⟩ := row6 (hp_on B9.out hSw); go_simp; first | done | with_reducible rfl | (intro hh; omega) | skip)
                      try simp only [Act.put, List.setIfInBounds_toArray, List.set_cons_zero, List.set_cons_succ]
                      refine wpAnyH_take (S := (fun wx => Below w9.heap.size w9 wx)) (i := 19) (oi := { dst := some 118, op := Go.Op.binOp Go.BinOp.gtr 2 (Go.Operand.tmp 115) (Go.Operand.tmp 117) 2, type := 4, pos := "law.go:78", after := #[{ on := 16, ground := Go.Ground.data }, { on := 18, ground := Go.Ground.data }, { on := 11, ground := Go.Ground.guard }], guard := some (11, true) }) (v := ?vh18) rfl (by kernel_rfl) (by kernel_rfl) (by kernel_rfl) (fun _ _ _ h => h) (Or.inl ⟨by rfl, ?yh18⟩) HS ?rh18
                      case yh18 => (intro wx hSw; skip; go_simp; first | done | with_reducible rfl | (intro hh; omega) | skip)
                      try simp only [Act.put, List.setIfInBounds_toArray, List.set_cons_zero, List.set_cons_succ]
                      refine wpAnyH_ready (rs := [13]) (by kernel_rfl) (by simp) ?_
                      refine AllReadyH.cons (o := { dst := some 112, op := Go.Op.call { callee := Go.Callee.value (Go.Operand.func 13), args := #[Go.Operand.tmp 111], argTypes := #[42] }, type := 2, pos := "law.go:78", after := #[{ on := 12, ground := Go.Ground.data }, { on := 11, ground := Go.Ground.chain }, { on := 11, ground := Go.Ground.guard }], guard := some (11, true) }) rfl (fun K hK => ?_) AllReadyH.nil
                      go_simp
                      refine (cB.out _).mono ?_; rintro e wn ⟨rfl, hbel⟩
                      have HS2 := HS.trans (hbel.mono HS.size)
                      clear HS hbel
                      refine hK.out _ _ HS2 (fun HS => ?_)
                      clear HS2 hK
                      try simp only [Act.put, List.setIfInBounds_toArray, List.set_cons_zero, List.set_cons_succ]
                      refine wpAnyH_take (S := (fun wx => Below w9.heap.size w9 wx)) (i := 14) (oi := { dst := some 113, op := Go.Op.binOp Go.BinOp.gtr 2 (Go.Operand.tmp 112) (Go.Operand.const (Go.Value.int Go.IntKind.i64 0)) 2, type := 4, pos := "law.go:78", after := #[{ on := 13, ground := Go.Ground.data }, { on := 11, ground := Go.Ground.guard }], guard := some (11, true) }) (v := ?vh19) rfl (by kernel_rfl) (by kernel_rfl) (by kernel_rfl) (fun _ _ _ h => h) (Or.inl ⟨by rfl, ?yh19⟩) HS ?rh19
                      case yh19 => (intro wx hSw; skip; go_simp; first | done | with_reducible rfl | (intro hh; omega) | skip)
                      try simp only [Act.put, List.setIfInBounds_toArray, List.set_cons_zero, List.set_cons_succ]
                      refine wpAnyH_take (S := (fun wx => Below w9.heap.size w9 wx)) (i := 20) (oi := { dst := some 119, op := Go.Op.binOp Go.BinOp.neq 4 (Go.Operand.tmp 113) (Go.Operand.tmp 118) 4, type := 4, pos := "law.go:78", after := #[{ on := 14, ground := Go.Ground.data }, { on := 19, ground := Go.Ground.data }, { on := 11, ground := Go.Ground.guard }], guard := some (11, true) }) (v := ?vh20) rfl (by kernel_rfl) (by kernel_rfl) (by kernel_rfl) (fun _ _ _ h => h) (Or.inl ⟨by rfl, ?yh20⟩) HS ?rh20
                      case yh20 => (intro wx hSw; skip; go_simp; first | done | with_reducible rfl | (intro hh; omega) | skip)
                      try simp only [Act.put, List.setIfInBounds_toArray, List.set_cons_zero, List.set_cons_succ]
                      refine wpAnyH_take (S := (fun wx => Below w9.heap.size w9 wx)) (i := 21) (oi := { dst := some 120, op := Go.Op.pick (Go.Operand.tmp 110) (Go.Operand.tmp 119) (Go.Operand.const (Go.Value.bool false)), type := 4, pos := "law.go:78", after := #[{ on := 11, ground := Go.Ground.data }, { on := 20, ground := Go.Ground.data }, { on := 8, ground := Go.Ground.guard }], guard := some (8, false) }) (v := ?vh21) rfl (by kernel_rfl) (by kernel_rfl) (by kernel_rfl) (fun _ _ _ h => h) (Or.inl ⟨by rfl, ?yh21⟩) HS ?rh21
                      case yh21 => (intro wx hSw; skip; go_simp; first | done | with_reducible rfl | (intro hh; omega) | skip)
                      try simp only [Act.put, List.setIfInBounds_toArray, List.set_cons_zero, List.set_cons_succ]
                      refine wpAnyH_take (S := (fun wx => Below w9.heap.size w9 wx)) (i := 22) (oi := { dst := some 121, op := Go.Op.pick (Go.Operand.tmp 107) (Go.Operand.const (Go.Value.bool true)) (Go.Operand.tmp 120), type := 4, pos := "law.go:78", after := #[{ on := 8, ground := Go.Ground.data }, { on := 21, ground := Go.Ground.data }], guard := none }) (v := ?vh22) rfl (by kernel_rfl) (by kernel_rfl) (by kernel_rfl) (fun _ _ _ h => h) (Or.inl ⟨by rfl, ?yh22⟩) HS ?rh22
                      case yh22 => (intro wx hSw; skip; go_simp; first | done | with_reducible rfl | (intro hh; omega) | skip)
                      try simp only [Act.put, List.setIfInBounds_toArray, List.set_cons_zero, List.set_cons_succ]
                      refine wpAnyH_take (S := (fun wx => Below w9.heap.size w9 wx)) (i := 23) (oi := { dst := some 122, op := Go.Op.move (Go.Operand.tmp 121), type := 4, pos := "law.go:78", after := #[{ on := 22, ground := Go.Ground.data }, { on := 13, ground := Go.Ground.chain }], guard := none }) (v := ?vh23) rfl (by kernel_rfl) (by kernel_rfl) (by kernel_rfl) (fun _ _ _ h => h) (Or.inl ⟨by rfl, ?yh23⟩) HS ?rh23
                      case yh23 => (intro wx hSw; skip; go_simp; first | done | with_reducible rfl | (intro hh; omega) | skip)
                      try simp only [Act.put, List.setIfInBounds_toArray, List.set_cons_zero, List.set_cons_succ]
                      refine wpAnyH_take (S := (fun wx => Below w9.heap.size w9 wx)) (i := 24) (oi := { dst := some 123, op := Go.Op.fieldAddr 42 (Go.Operand.tmp 17) 2, type := 0, pos := "law.go:78", after := #[{ on := 23, ground := Go.Ground.guard }], guard := some (23, false) }) (v := ?vh24) rfl (by kernel_rfl) (by kernel_rfl) (by kernel_rfl) (fun _ _ _ h => h) (Or.inl ⟨by rfl, ?yh24⟩) HS ?rh24
                      case yh24 => (intro wx hSw; skip; go_simp; first | done | with_reducible rfl | (intro hh; omega) | skip)
                      try simp only [Act.put, List.setIfInBounds_toArray, List.set_cons_zero, List.set_cons_succ]
                      refine wpAnyH_take (S := (fun wx => Below w9.heap.size w9 wx)) (i := 25) (oi := { dst := some 124, op := Go.Op.load 2 (Go.Operand.tmp 123), type := 2, pos := "law.go:78", after := #[{ on := 24, ground := Go.Ground.data }, { on := 23, ground := Go.Ground.guard }], guard := some (23, false) }) (v := ?vh25) rfl (by kernel_rfl) (by kernel_rfl) (by kernel_rfl) (fun _ _ _ h => h) (Or.inl ⟨by rfl, ?yh25⟩) HS ?rh25
                      case yh25 => (intro wx hSw; obtain ⟨⟨p0, p1, p2, p3, p4, p5⟩, -⟩ := row6 (hp_on B9.out hSw); go_simp; first | done | with_reducible rfl | (intro hh; omega) | skip)
                      try simp only [Act.put, List.setIfInBounds_toArray, List.set_cons_zero, List.set_cons_succ]
                      refine wpAnyH_take (S := (fun wx => Below w9.heap.size w9 wx)) (i := 26) (oi := { dst := some 125, op := Go.Op.fieldAddr 42 (Go.Operand.tmp 17) 1, type := 0, pos := "law.go:78", after := #[{ on := 23, ground := Go.Ground.guard }], guard := some (23, false) }) (v := ?vh26) rfl (by kernel_rfl) (by kernel_rfl) (by kernel_rfl) (fun _ _ _ h => h) (Or.inl ⟨by rfl, ?yh26⟩) HS ?rh26
                      case yh26 => (intro wx hSw; skip; go_simp; first | done | with_reducible rfl | (intro hh; omega) | skip)
                      try simp only [Act.put, List.setIfInBounds_toArray, List.set_cons_zero, List.set_cons_succ]
                      refine wpAnyH_take (S := (fun wx => Below w9.heap.size w9 wx)) (i := 27) (oi := { dst := some 126, op := Go.Op.load 2 (Go.Operand.tmp 125), type := 2, pos := "law.go:78", after := #[{ on := 26, ground := Go.Ground.data }, { on := 23, ground := Go.Ground.guard }], guard := some (23, false) }) (v := ?vh27) rfl (by kernel_rfl) (by kernel_rfl) (by kernel_rfl) (fun _ _ _ h => h) (Or.inl ⟨by rfl, ?yh27⟩) HS ?rh27
                      case yh27 => (intro wx hSw; obtain ⟨⟨p0, p1, p2, p3, p4, p5⟩, -⟩ := row6 (hp_on B9.out hSw); go_simp; first | done | with_reducible rfl | (intro hh; omega) | skip)
                      try simp only [Act.put, List.setIfInBounds_toArray, List.set_cons_zero, List.set_cons_succ]
                      refine wpAnyH_take (S := (fun wx => Below w9.heap.size w9 wx)) (i := 28) (oi := { dst := some 127, op := Go.Op.binOp Go.BinOp.gtr 2 (Go.Operand.tmp 124) (Go.Operand.tmp 126) 2, type := 4, pos := "law.go:78", after := #[{ on := 25, ground := Go.Ground.data }, { on := 27, ground := Go.Ground.data }, { on := 23, ground := Go.Ground.guard }], guard := some (23, false) }) (v := ?vh28) rfl (by kernel_rfl) (by kernel_rfl) (by kernel_rfl) (fun _ _ _ h => h) (Or.inl ⟨by rfl, ?yh28⟩) HS ?rh28
                      case yh28 => (intro wx hSw; skip; go_simp; first | done | with_reducible rfl | (intro hh; omega) | skip)
                      try simp only [Act.put, List.setIfInBounds_toArray, List.set_cons_zero, List.set_cons_succ]
                      refine wpAnyH_take (S := (fun wx => Below w9.heap.size w9 wx)) (i := 29) (oi := { dst := some 128, op := Go.Op.pick (Go.Operand.tmp 122) (Go.Operand.const (Go.Value.bool true)) (Go.Operand.tmp 127), type := 4, pos := "law.go:78", after := #[{ on := 23, ground := Go.Ground.data }, { on := 28, ground := Go.Ground.data }], guard := none }) (v := ?vh29) rfl (by kernel_rfl) (by kernel_rfl) (by kernel_rfl) (fun _ _ _ h => h) (Or.inl ⟨by rfl, ?yh29⟩) HS ?rh29
                      case yh29 => (intro wx hSw; skip; go_simp; first | done | with_reducible rfl | (intro hh; omega) | skip)
                      try simp only [Act.put, List.setIfInBounds_toArray, List.set_cons_zero, List.set_cons_succ]
                      refine wpAnyH_take (S := (fun wx => Below w9.heap.size w9 wx)) (i := 30) (oi := { dst := some 129, op := Go.Op.move (Go.Operand.tmp 128), type := 4, pos := "law.go:78", after := #[{ on := 29, ground := Go.Ground.data }, { on := 23, ground := Go.Ground.chain }], guard := none }) (v := ?vh30) rfl (by kernel_rfl) (by kernel_rfl) (by kernel_rfl) (fun _ _ _ h => h) (Or.inl ⟨by rfl, ?yh30⟩) HS ?rh30
                      case yh30 => (intro wx hSw; skip; go_simp; first | done | with_reducible rfl | (intro hh; omega) | skip)
                      try simp only [Act.put, List.setIfInBounds_toArray, List.set_cons_zero, List.set_cons_succ]
                      refine wpAnyH_take (S := (fun wx => Below w9.heap.size w9 wx)) (i := 31) (oi := { dst := some 130, op := Go.Op.fieldAddr 42 (Go.Operand.tmp 17) 0, type := 0, pos := "law.go:78", after := #[{ on := 30, ground := Go.Ground.guard }], guard := some (30, false) }) (v := ?vh31) rfl (by kernel_rfl) (by kernel_rfl) (by kernel_rfl) (fun _ _ _ h => h) (Or.inl ⟨by rfl, ?yh31⟩) HS ?rh31
                      case yh31 => (intro wx hSw; skip; go_simp; first | done | with_reducible rfl | (intro hh; omega) | skip)
                      try simp only [Act.put, List.setIfInBounds_toArray, List.set_cons_zero, List.set_cons_succ]
                      refine wpAnyH_take (S := (fun wx => Below w9.heap.size w9 wx)) (i := 32) (oi := { dst := some 131, op := Go.Op.load 2 (Go.Operand.tmp 130), type := 2, pos := "law.go:78", after := #[{ on := 31, ground := Go.Ground.data }, { on := 30, ground := Go.Ground.guard }], guard := some (30, false) }) (v := ?vh32) rfl (by kernel_rfl) (by kernel_rfl) (by kernel_rfl) (fun _ _ _ h => h) (Or.inl ⟨by rfl, ?yh32⟩) HS ?rh32
                      case yh32 => (intro wx hSw; obtain ⟨⟨p0, p1, p2, p3, p4, p5⟩, -⟩ := row6 (hp_on B9.out hSw); go_simp; first | done | with_reducible rfl | (intro hh; omega) | skip)
                      try simp only [Act.put, List.setIfInBounds_toArray, List.set_cons_zero, List.set_cons_succ]
                      refine wpAnyH_take (S := (fun wx => Below w9.heap.size w9 wx)) (i := 33) (oi := { dst := some 132, op := Go.Op.fieldAddr 42 (Go.Operand.tmp 17) 2, type := 0, pos := "law.go:78", after := #[{ on := 30, ground := Go.Ground.guard }], guard := some (30, false) }) (v := ?vh33) rfl (by kernel_rfl) (by kernel_rfl) (by kernel_rfl) (fun _ _ _ h => h) (Or.inl ⟨by rfl, ?yh33⟩) HS ?rh33
                      case yh33 => (intro wx hSw; skip; go_simp; first | done | with_reducible rfl | (intro hh; omega) | skip)
                      try simp only [Act.put, List.setIfInBounds_toArray, List.set_cons_zero, List.set_cons_succ]
                      refine wpAnyH_take (S := (fun wx => Below w9.heap.size w9 wx)) (i := 34) (oi := { dst := some 133, op := Go.Op.load 2 (Go.Operand.tmp 132), type := 2, pos := "law.go:78", after := #[{ on := 33, ground := Go.Ground.data }, { on := 30, ground := Go.Ground.guard }], guard := some (30, false) }) (v := ?vh34) rfl (by kernel_rfl) (by kernel_rfl) (by kernel_rfl) (fun _ _ _ h => h) (Or.inl ⟨by rfl, ?yh34⟩) HS ?rh34
                      case yh34 => (intro wx hSw; obtain ⟨⟨p0, p1, p2, p3, p4, p5⟩, -⟩ := row6 (hp_on B9.out hSw); go_simp; first | done | with_reducible rfl | (intro hh; omega) | skip)
                      try simp only [Act.put, List.setIfInBounds_toArray, List.set_cons_zero, List.set_cons_succ]
                      refine wpAnyH_take (S := (fun wx => Below w9.heap.size w9 wx)) (i := 35) (oi := { dst := some 134, op := Go.Op.binOp Go.BinOp.lss 2 (Go.Operand.tmp 131) (Go.Operand.tmp 133) 2, type := 4, pos := "law.go:78", after := #[{ on := 32, ground := Go.Ground.data }, { on := 34, ground := Go.Ground.data }, { on := 30, ground := Go.Ground.guard }], guard := some (30, false) }) (v := ?vh35) rfl (by kernel_rfl) (by kernel_rfl) (by kernel_rfl) (fun _ _ _ h => h) (Or.inl ⟨by rfl, ?yh35⟩) HS ?rh35
                      case yh35 => (intro wx hSw; skip; go_simp; first | done | with_reducible rfl | (intro hh; omega) | skip)
                      try simp only [Act.put, List.setIfInBounds_toArray, List.set_cons_zero, List.set_cons_succ]
                      refine wpAnyH_take (S := (fun wx => Below w9.heap.size w9 wx)) (i := 36) (oi := { dst := some 135, op := Go.Op.pick (Go.Operand.tmp 129) (Go.Operand.const (Go.Value.bool true)) (Go.Operand.tmp 134), type := 4, pos := "law.go:78", after := #[{ on := 30, ground := Go.Ground.data }, { on := 35, ground := Go.Ground.data }], guard := none }) (v := ?vh36) rfl (by kernel_rfl) (by kernel_rfl) (by kernel_rfl) (fun _ _ _ h => h) (Or.inl ⟨by rfl, ?yh36⟩) HS ?rh36
                      case yh36 => (intro wx hSw; skip; go_simp; first | done | with_reducible rfl | (intro hh; omega) | skip)
                      try simp only [Act.put, List.setIfInBounds_toArray, List.set_cons_zero, List.set_cons_succ]
                      refine wpAnyH_take (S := (fun wx => Below w9.heap.size w9 wx)) (i := 37) (oi := { dst := some 136, op := Go.Op.move (Go.Operand.tmp 135), type := 4, pos := "law.go:78", after := #[{ on := 36, ground := Go.Ground.data }, { on := 30, ground := Go.Ground.chain }], guard := none }) (v := ?vh37) rfl (by kernel_rfl) (by kernel_rfl) (by kernel_rfl) (fun _ _ _ h => h) (Or.inl ⟨by rfl, ?yh37⟩) HS ?rh37
                      case yh37 => (intro wx hSw; skip; go_simp; first | done | with_reducible rfl | (intro hh; omega) | skip)
                      try simp only [Act.put, List.setIfInBounds_toArray, List.set_cons_zero, List.set_cons_succ]
                      refine wpAnyH_take (S := (fun wx => Below w9.heap.size w9 wx)) (i := 38) (oi := { dst := some 137, op := Go.Op.fieldAddr 42 (Go.Operand.tmp 17) 3, type := 0, pos := "law.go:78", after := #[{ on := 37, ground := Go.Ground.guard }], guard := some (37, false) }) (v := ?vh38) rfl (by kernel_rfl) (by kernel_rfl) (by kernel_rfl) (fun _ _ _ h => h) (Or.inl ⟨by rfl, ?yh38⟩) HS ?rh38
                      case yh38 => (intro wx hSw; skip; go_simp; first | done | with_reducible rfl | (intro hh; omega) | skip)
                      try simp only [Act.put, List.setIfInBounds_toArray, List.set_cons_zero, List.set_cons_succ]
                      refine wpAnyH_take (S := (fun wx => Below w9.heap.size w9 wx)) (i := 39) (oi := { dst := some 138, op := Go.Op.load 2 (Go.Operand.tmp 137), type := 2, pos := "law.go:78", after := #[{ on := 38, ground := Go.Ground.data }, { on := 37, ground := Go.Ground.guard }], guard := some (37, false) }) (v := ?vh39) rfl (by kernel_rfl) (by kernel_rfl) (by kernel_rfl) (fun _ _ _ h => h) (Or.inl ⟨by rfl, ?yh39⟩) HS ?rh39
                      case yh39 => (intro wx hSw; obtain ⟨⟨p0, p1, p2, p3, p4, p5⟩, -⟩ := row6 (hp_on B9.out hSw); go_simp; first | done | with_reducible rfl | (intro hh; omega) | skip)
                      try simp only [Act.put, List.setIfInBounds_toArray, List.set_cons_zero, List.set_cons_succ]
                      refine wpAnyH_take (S := (fun wx => Below w9.heap.size w9 wx)) (i := 40) (oi := { dst := some 139, op := Go.Op.fieldAddr 42 (Go.Operand.tmp 17) 1, type := 0, pos := "law.go:78", after := #[{ on := 37, ground := Go.Ground.guard }], guard := some (37, false) }) (v := ?vh40) rfl (by kernel_rfl) (by kernel_rfl) (by kernel_rfl) (fun _ _ _ h => h) (Or.inl ⟨by rfl, ?yh40⟩) HS ?rh40
                      case yh40 => (intro wx hSw; skip; go_simp; first | done | with_reducible rfl | (intro hh; omega) | skip)
                      try simp only [Act.put, List.setIfInBounds_toArray, List.set_cons_zero, List.set_cons_succ]
                      refine wpAnyH_take (S := (fun wx => Below w9.heap.size w9 wx)) (i := 41) (oi := { dst := some 140, op := Go.Op.load 2 (Go.Operand.tmp 139), type := 2, pos := "law.go:78", after := #[{ on := 40, ground := Go.Ground.data }, { on := 37, ground := Go.Ground.guard }], guard := some (37, false) }) (v := ?vh41) rfl (by kernel_rfl) (by kernel_rfl) (by kernel_rfl) (fun _ _ _ h => h) (Or.inl ⟨by rfl, ?yh41⟩) HS ?rh41
                      case yh41 => (intro wx hSw; obtain ⟨⟨p0, p1, p2, p3, p4, p5⟩, -⟩ := row6 (hp_on B9.out hSw); go_simp; first | done | with_reducible rfl | (intro hh; omega) | skip)
                      try simp only [Act.put, List.setIfInBounds_toArray, List.set_cons_zero, List.set_cons_succ]
                      refine wpAnyH_take (S := (fun wx => Below w9.heap.size w9 wx)) (i := 42) (oi := { dst := some 141, op := Go.Op.binOp Go.BinOp.gtr 2 (Go.Operand.tmp 138) (Go.Operand.tmp 140) 2, type := 4, pos := "law.go:78", after := #[{ on := 39, ground := Go.Ground.data }, { on := 41, ground := Go.Ground.data }, { on := 37, ground := Go.Ground.guard }], guard := some (37, false) }) (v := ?vh42) rfl (by kernel_rfl) (by kernel_rfl) (by kernel_rfl) (fun _ _ _ h => h) (Or.inl ⟨by rfl, ?yh42⟩) HS ?rh42
                      case yh42 => (intro wx hSw; skip; go_simp; first | done | with_reducible rfl | (intro hh; omega) | skip)
                      try simp only [Act.put, List.setIfInBounds_toArray, List.set_cons_zero, List.set_cons_succ]
                      refine wpAnyH_take (S := (fun wx => Below w9.heap.size w9 wx)) (i := 43) (oi := { dst := some 142, op := Go.Op.pick (Go.Operand.tmp 136) (Go.Operand.const (Go.Value.bool true)) (Go.Operand.tmp 141), type := 4, pos := "law.go:78", after := #[{ on := 37, ground := Go.Ground.data }, { on := 42, ground := Go.Ground.data }], guard := none }) (v := ?vh43) rfl (by kernel_rfl) (by kernel_rfl) (by kernel_rfl) (fun _ _ _ h => h) (Or.inl ⟨by rfl, ?yh43⟩) HS ?rh43
                      case yh43 => (intro wx hSw; skip; go_simp; first | done | with_reducible rfl | (intro hh; omega) | skip)
                      try simp only [Act.put, List.setIfInBounds_toArray, List.set_cons_zero, List.set_cons_succ]
                      refine wpAnyH_done (by kernel_rfl) ?_ _
                      refine NoPanic.normal ?_
                      go_wp2
                      go_meet
                      case rel => exact ⟨rfl, HS⟩
                    · have hbd : body cc = 9223372036854775807 := by unfold body; rw [if_neg hr, if_neg hlt]
                      have hne : cc.a ≠ cc.f := fun e => hr (by rw [e]; unfold Am.rg; omega)
                      have g4 : decide (cc.a > cc.f) = true := decide_eq_true (by omega)
                      rw [hbd] at cB
                      clear hbd hr hlt hne
                      refine wp_region_noPanic ?_
                      refine wp_region_held_drew (S := (fun wx => Below w9.heap.size w9 wx)) (by kernel_rfl) (⟨rfl, rfl, rfl, Nat.le_refl _, fun _ _ => rfl⟩) (fun HS => ?_)
                      refine wpAnyH_take (S := (fun wx => Below w9.heap.size w9 wx)) (i := 0) (oi := { dst := some 99, op := Go.Op.move (Go.Operand.tmp 19), type := 3, pos := "law.go:78", after := #[], guard := none }) (v := ?vk1) rfl (by kernel_rfl) (by kernel_rfl) (by kernel_rfl) (fun _ _ _ h => h) (Or.inl ⟨by rfl, ?yk1⟩) HS ?rk1
                      case yk1 => (intro wx hSw; skip; go_simp; first | done | with_reducible rfl | (intro hh; omega) | skip)
                      try simp only [Act.put, List.setIfInBounds_toArray, List.set_cons_zero, List.set_cons_succ]
                      refine wpAnyH_take (S := (fun wx => Below w9.heap.size w9 wx)) (i := 1) (oi := { dst := some 100, op := Go.Op.binOp Go.BinOp.eql 3 (Go.Operand.tmp 99) (Go.Operand.const (Go.Value.int Go.IntKind.i64 0)) 3, type := 4, pos := "law.go:78", after := #[{ on := 0, ground := Go.Ground.data }], guard := none }) (v := ?vk2) rfl (by kernel_rfl) (by kernel_rfl) (by kernel_rfl) (fun _ _ _ h => h) (Or.inl ⟨by rfl, ?yk2⟩) HS ?rk2
                      case yk2 => (intro wx hSw; skip; go_simp; first | done | with_reducible rfl | (intro hh; omega) | skip)
                      try simp only [Act.put, List.setIfInBounds_toArray, List.set_cons_zero, List.set_cons_succ]
                      refine wpAnyH_take (S := (fun wx => Below w9.heap.size w9 wx)) (i := 2) (oi := { dst := some 101, op := Go.Op.move (Go.Operand.tmp 100), type := 4, pos := "law.go:78", after := #[{ on := 1, ground := Go.Ground.data }], guard := none }) (v := ?vk3) rfl (by kernel_rfl) (by kernel_rfl) (by kernel_rfl) (fun _ _ _ h => h) (Or.inl ⟨by rfl, ?yk3⟩) HS ?rk3
                      case yk3 => (intro wx hSw; skip; go_simp; first | done | with_reducible rfl | (intro hh; omega) | skip)
                      try simp only [Act.put, List.setIfInBounds_toArray, List.set_cons_zero, List.set_cons_succ]
                      refine wpAnyH_take (S := (fun wx => Below w9.heap.size w9 wx)) (i := 3) (oi := { dst := some 102, op := Go.Op.load 42 (Go.Operand.tmp 17), type := 42, pos := "law.go:78", after := #[{ on := 2, ground := Go.Ground.guard }], guard := some (2, true) }) (v := undef) rfl (by kernel_rfl) (by kernel_rfl) (by kernel_rfl) (fun _ _ _ h => h) (Or.inr ⟨by rfl, rfl⟩) HS ?rk4
                      try simp only [Act.put, List.setIfInBounds_toArray, List.set_cons_zero, List.set_cons_succ]
                      refine wpAnyH_take (S := (fun wx => Below w9.heap.size w9 wx)) (i := 4) (oi := { dst := some 103, op := Go.Op.call { callee := Go.Callee.value (Go.Operand.func 13), args := #[Go.Operand.tmp 102], argTypes := #[42] }, type := 2, pos := "law.go:78", after := #[{ on := 3, ground := Go.Ground.data }, { on := 2, ground := Go.Ground.chain }, { on := 2, ground := Go.Ground.guard }], guard := some (2, true) }) (v := undef) rfl (by kernel_rfl) (by kernel_rfl) (by kernel_rfl) (fun _ _ _ h => h) (Or.inr ⟨by rfl, rfl⟩) HS ?rk5
                      try simp only [Act.put, List.setIfInBounds_toArray, List.set_cons_zero, List.set_cons_succ]
                      refine wpAnyH_take (S := (fun wx => Below w9.heap.size w9 wx)) (i := 5) (oi := { dst := some 104, op := Go.Op.move (Go.Operand.tmp 18), type := 2, pos := "law.go:78", after := #[{ on := 2, ground := Go.Ground.guard }], guard := some (2, true) }) (v := undef) rfl (by kernel_rfl) (by kernel_rfl) (by kernel_rfl) (fun _ _ _ h => h) (Or.inr ⟨by rfl, rfl⟩) HS ?rk6
                      try simp only [Act.put, List.setIfInBounds_toArray, List.set_cons_zero, List.set_cons_succ]
                      refine wpAnyH_take (S := (fun wx => Below w9.heap.size w9 wx)) (i := 6) (oi := { dst := some 105, op := Go.Op.binOp Go.BinOp.neq 2 (Go.Operand.tmp 103) (Go.Operand.tmp 104) 2, type := 4, pos := "law.go:78", after := #[{ on := 4, ground := Go.Ground.data }, { on := 5, ground := Go.Ground.data }, { on := 2, ground := Go.Ground.guard }], guard := some (2, true) }) (v := undef) rfl (by kernel_rfl) (by kernel_rfl) (by kernel_rfl) (fun _ _ _ h => h) (Or.inr ⟨by rfl, rfl⟩) HS ?rk7
                      try simp only [Act.put, List.setIfInBounds_toArray, List.set_cons_zero, List.set_cons_succ]
                      refine wpAnyH_take (S := (fun wx => Below w9.heap.size w9 wx)) (i := 7) (oi := { dst := some 106, op := Go.Op.pick (Go.Operand.tmp 101) (Go.Operand.tmp 105) (Go.Operand.const (Go.Value.bool false)), type := 4, pos := "law.go:78", after := #[{ on := 2, ground := Go.Ground.data }, { on := 6, ground := Go.Ground.data }], guard := none }) (v := ?vk8) rfl (by kernel_rfl) (by kernel_rfl) (by kernel_rfl) (fun _ _ _ h => h) (Or.inl ⟨by rfl, ?yk8⟩) HS ?rk8
                      case yk8 => (intro wx hSw; skip; go_simp; first | done | with_reducible rfl | (intro hh; omega) | skip)
                      try simp only [Act.put, List.setIfInBounds_toArray, List.set_cons_zero, List.set_cons_succ]
                      refine wpAnyH_take (S := (fun wx => Below w9.heap.size w9 wx)) (i := 8) (oi := { dst := some 107, op := Go.Op.move (Go.Operand.tmp 106), type := 4, pos := "law.go:78", after := #[{ on := 7, ground := Go.Ground.data }, { on := 4, ground := Go.Ground.chain }], guard := none }) (v := ?vk9) rfl (by kernel_rfl) (by kernel_rfl) (by kernel_rfl) (fun _ _ _ h => h) (Or.inl ⟨by rfl, ?yk9⟩) HS ?rk9
                      case yk9 => (intro wx hSw; skip; go_simp; first | done | with_reducible rfl | (intro hh; omega) | skip)
                      try simp only [Act.put, List.setIfInBounds_toArray, List.set_cons_zero, List.set_cons_succ]
                      refine wpAnyH_take (S := (fun wx => Below w9.heap.size w9 wx)) (i := 9) (oi := { dst := some 108, op := Go.Op.move (Go.Operand.tmp 19), type := 3, pos := "law.go:78", after := #[{ on := 8, ground := Go.Ground.guard }], guard := some (8, false) }) (v := ?vk10) rfl (by kernel_rfl) (by kernel_rfl) (by kernel_rfl) (fun _ _ _ h => h) (Or.inl ⟨by rfl, ?yk10⟩) HS ?rk10
                      case yk10 => (intro wx hSw; skip; go_simp; first | done | with_reducible rfl | (intro hh; omega) | skip)
                      try simp only [Act.put, List.setIfInBounds_toArray, List.set_cons_zero, List.set_cons_succ]
                      refine wpAnyH_take (S := (fun wx => Below w9.heap.size w9 wx)) (i := 10) (oi := { dst := some 109, op := Go.Op.binOp Go.BinOp.neq 3 (Go.Operand.tmp 108) (Go.Operand.const (Go.Value.int Go.IntKind.i64 0)) 3, type := 4, pos := "law.go:78", after := #[{ on := 9, ground := Go.Ground.data }, { on := 8, ground := Go.Ground.guard }], guard := some (8, false) }) (v := ?vk11) rfl (by kernel_rfl) (by kernel_rfl) (by kernel_rfl) (fun _ _ _ h => h) (Or.inl ⟨by rfl, ?yk11⟩) HS ?rk11
                      case yk11 => (intro wx hSw; skip; go_simp; first | done | with_reducible rfl | (intro hh; omega) | skip)
                      try simp only [Act.put, List.setIfInBounds_toArray, List.set_cons_zero, List.set_cons_succ]
                      refine wpAnyH_take (S := (fun wx => Below w9.heap.size w9 wx)) (i := 11) (oi := { dst := some 110, op := Go.Op.move (Go.Operand.tmp 109), type := 4, pos := "law.go:78", after := #[{ on := 10, ground := Go.Ground.data }, { on := 8, ground := Go.Ground.chain }, { on := 8, ground := Go.Ground.guard }], guard := some (8, false) }) (v := ?vk12) rfl (by kernel_rfl) (by kernel_rfl) (by kernel_rfl) (fun _ _ _ h => h) (Or.inl ⟨by rfl, ?yk12⟩) HS ?rk12
                      case yk12 => (intro wx hSw; skip; go_simp; first | done | with_reducible rfl | (intro hh; omega) | skip)
                      try simp only [Act.put, List.setIfInBounds_toArray, List.set_cons_zero, List.set_cons_succ]
                      refine wpAnyH_take (S := (fun wx => Below w9.heap.size w9 wx)) (i := 12) (oi := { dst := some 111, op := Go.Op.load 42 (Go.Operand.tmp 17), type := 42, pos := "law.go:78", after := #[{ on := 11, ground := Go.Ground.guard }], guard := some (11, true) }) (v := ?vk13) rfl (by kernel_rfl) (by kernel_rfl) (by kernel_rfl) (fun _ _ _ h => h) (Or.inl ⟨by rfl, ?yk13⟩) HS ?rk13
                      case yk13 => (intro wx hSw; obtain ⟨⟨p0, p1, p2, p3, p4, p5⟩, -⟩ := row6 (hp_on B9.out hSw); go_simp; first | done | with_reducible rfl | (intro hh; omega) | skip)
                      try simp only [Act.put, List.setIfInBounds_toArray, List.set_cons_zero, List.set_cons_succ]
                      refine wpAnyH_take (S := (fun wx => Below w9.heap.size w9 wx)) (i := 15) (oi := { dst := some 114, op := Go.Op.fieldAddr 42 (Go.Operand.tmp 17) 3, type := 0, pos := "law.go:78", after := #[{ on := 11, ground := Go.Ground.guard }], guard := some (11, true) }) (v := ?vk14) rfl (by kernel_rfl) (by kernel_rfl) (by kernel_rfl) (fun _ _ _ h => h) (Or.inl ⟨by rfl, ?yk14⟩) HS ?rk14
                      case yk14 => (intro wx hSw; skip; go_simp; first | done | with_reducible rfl | (intro hh; omega) | skip)
                      try simp only [Act.put, List.setIfInBounds_toArray, List.set_cons_zero, List.set_cons_succ]
                      refine wpAnyH_take (S := (fun wx => Below w9.heap.size w9 wx)) (i := 16) (oi := { dst := some 115, op := Go.Op.load 2 (Go.Operand.tmp 114), type := 2, pos := "law.go:78", after := #[{ on := 15, ground := Go.Ground.data }, { on := 11, ground := Go.Ground.guard }], guard := some (11, true) }) (v := ?vk15) rfl (by kernel_rfl) (by kernel_rfl) (by kernel_rfl) (fun _ _ _ h => h) (Or.inl ⟨by rfl, ?yk15⟩) HS ?rk15
                      case yk15 => (intro wx hSw; obtain ⟨⟨p0, p1, p2, p3, p4, p5⟩, -⟩ := row6 (hp_on B9.out hSw); go_simp; first | done | with_reducible rfl | (intro hh; omega) | skip)
                      try simp only [Act.put, List.setIfInBounds_toArray, List.set_cons_zero, List.set_cons_succ]
                      refine wpAnyH_take (S := (fun wx => Below w9.heap.size w9 wx)) (i := 17) (oi := { dst := some 116, op := Go.Op.fieldAddr 42 (Go.Operand.tmp 17) 0, type := 0, pos := "law.go:78", after := #[{ on := 11, ground := Go.Ground.guard }], guard := some (11, true) }) (v := ?vk16) rfl (by kernel_rfl) (by kernel_rfl) (by kernel_rfl) (fun _ _ _ h => h) (Or.inl ⟨by rfl, ?yk16⟩) HS ?rk16
                      case yk16 => (intro wx hSw; skip; go_simp; first | done | with_reducible rfl | (intro hh; omega) | skip)
                      try simp only [Act.put, List.setIfInBounds_toArray, List.set_cons_zero, List.set_cons_succ]
                      refine wpAnyH_take (S := (fun wx => Below w9.heap.size w9 wx)) (i := 18) (oi := { dst := some 117, op := Go.Op.load 2 (Go.Operand.tmp 116), type := 2, pos := "law.go:78", after := #[{ on := 17, ground := Go.Ground.data }, { on := 11, ground := Go.Ground.guard }], guard := some (11, true) }) (v := ?vk17) rfl (by kernel_rfl) (by kernel_rfl) (by kernel_rfl) (fun _ _ _ h => h) (Or.inl ⟨by rfl, ?yk17⟩) HS ?rk17
                      case yk17 => (intro wx hSw; obtain ⟨⟨p0, p1, p2, p3, p4, p5⟩, -⟩ := row6 (hp_on B9.out hSw); go_simp; first | done | with_reducible rfl | (intro hh; omega) | skip)
                      try simp only [Act.put, List.setIfInBounds_toArray, List.set_cons_zero, List.set_cons_succ]
                      refine wpAnyH_take (S := (fun wx => Below w9.heap.size w9 wx)) (i := 19) (oi := { dst := some 118, op := Go.Op.binOp Go.BinOp.gtr 2 (Go.Operand.tmp 115) (Go.Operand.tmp 117) 2, type := 4, pos := "law.go:78", after := #[{ on := 16, ground := Go.Ground.data }, { on := 18, ground := Go.Ground.data }, { on := 11, ground := Go.Ground.guard }], guard := some (11, true) }) (v := ?vk18) rfl (by kernel_rfl) (by kernel_rfl) (by kernel_rfl) (fun _ _ _ h => h) (Or.inl ⟨by rfl, ?yk18⟩) HS ?rk18
                      case yk18 => (intro wx hSw; skip; go_simp; first | done | with_reducible rfl | (intro hh; omega) | skip)
                      try simp only [Act.put, List.setIfInBounds_toArray, List.set_cons_zero, List.set_cons_succ]
                      refine wpAnyH_ready (rs := [13]) (by kernel_rfl) (by simp) ?_
                      refine AllReadyH.cons (o := { dst := some 112, op := Go.Op.call { callee := Go.Callee.value (Go.Operand.func 13), args := #[Go.Operand.tmp 111], argTypes := #[42] }, type := 2, pos := "law.go:78", after := #[{ on := 12, ground := Go.Ground.data }, { on := 11, ground := Go.Ground.chain }, { on := 11, ground := Go.Ground.guard }], guard := some (11, true) }) rfl (fun K hK => ?_) AllReadyH.nil
                      go_simp
                      refine (cB.out _).mono ?_; rintro e wn ⟨rfl, hbel⟩
                      have HS2 := HS.trans (hbel.mono HS.size)
                      clear HS hbel
                      refine hK.out _ _ HS2 (fun HS => ?_)
                      clear HS2 hK
                      try simp only [Act.put, List.setIfInBounds_toArray, List.set_cons_zero, List.set_cons_succ]
                      refine wpAnyH_take (S := (fun wx => Below w9.heap.size w9 wx)) (i := 14) (oi := { dst := some 113, op := Go.Op.binOp Go.BinOp.gtr 2 (Go.Operand.tmp 112) (Go.Operand.const (Go.Value.int Go.IntKind.i64 0)) 2, type := 4, pos := "law.go:78", after := #[{ on := 13, ground := Go.Ground.data }, { on := 11, ground := Go.Ground.guard }], guard := some (11, true) }) (v := ?vk19) rfl (by kernel_rfl) (by kernel_rfl) (by kernel_rfl) (fun _ _ _ h => h) (Or.inl ⟨by rfl, ?yk19⟩) HS ?rk19
                      case yk19 => (intro wx hSw; skip; go_simp; first | done | with_reducible rfl | (intro hh; omega) | skip)
                      try simp only [Act.put, List.setIfInBounds_toArray, List.set_cons_zero, List.set_cons_succ]
                      refine wpAnyH_take (S := (fun wx => Below w9.heap.size w9 wx)) (i := 20) (oi := { dst := some 119, op := Go.Op.binOp Go.BinOp.neq 4 (Go.Operand.tmp 113) (Go.Operand.tmp 118) 4, type := 4, pos := "law.go:78", after := #[{ on := 14, ground := Go.Ground.data }, { on := 19, ground := Go.Ground.data }, { on := 11, ground := Go.Ground.guard }], guard := some (11, true) }) (v := ?vk20) rfl (by kernel_rfl) (by kernel_rfl) (by kernel_rfl) (fun _ _ _ h => h) (Or.inl ⟨by rfl, ?yk20⟩) HS ?rk20
                      case yk20 => (intro wx hSw; skip; go_simp; first | done | with_reducible rfl | (intro hh; omega) | skip)
                      try simp only [Act.put, List.setIfInBounds_toArray, List.set_cons_zero, List.set_cons_succ]
                      refine wpAnyH_take (S := (fun wx => Below w9.heap.size w9 wx)) (i := 21) (oi := { dst := some 120, op := Go.Op.pick (Go.Operand.tmp 110) (Go.Operand.tmp 119) (Go.Operand.const (Go.Value.bool false)), type := 4, pos := "law.go:78", after := #[{ on := 11, ground := Go.Ground.data }, { on := 20, ground := Go.Ground.data }, { on := 8, ground := Go.Ground.guard }], guard := some (8, false) }) (v := ?vk21) rfl (by kernel_rfl) (by kernel_rfl) (by kernel_rfl) (fun _ _ _ h => h) (Or.inl ⟨by rfl, ?yk21⟩) HS ?rk21
                      case yk21 => (intro wx hSw; skip; go_simp; first | done | with_reducible rfl | (intro hh; omega) | skip)
                      try simp only [Act.put, List.setIfInBounds_toArray, List.set_cons_zero, List.set_cons_succ]
                      refine wpAnyH_take (S := (fun wx => Below w9.heap.size w9 wx)) (i := 22) (oi := { dst := some 121, op := Go.Op.pick (Go.Operand.tmp 107) (Go.Operand.const (Go.Value.bool true)) (Go.Operand.tmp 120), type := 4, pos := "law.go:78", after := #[{ on := 8, ground := Go.Ground.data }, { on := 21, ground := Go.Ground.data }], guard := none }) (v := ?vk22) rfl (by kernel_rfl) (by kernel_rfl) (by kernel_rfl) (fun _ _ _ h => h) (Or.inl ⟨by rfl, ?yk22⟩) HS ?rk22
                      case yk22 => (intro wx hSw; skip; go_simp; first | done | with_reducible rfl | (intro hh; omega) | skip)
                      try simp only [Act.put, List.setIfInBounds_toArray, List.set_cons_zero, List.set_cons_succ]
                      refine wpAnyH_take (S := (fun wx => Below w9.heap.size w9 wx)) (i := 23) (oi := { dst := some 122, op := Go.Op.move (Go.Operand.tmp 121), type := 4, pos := "law.go:78", after := #[{ on := 22, ground := Go.Ground.data }, { on := 13, ground := Go.Ground.chain }], guard := none }) (v := ?vk23) rfl (by kernel_rfl) (by kernel_rfl) (by kernel_rfl) (fun _ _ _ h => h) (Or.inl ⟨by rfl, ?yk23⟩) HS ?rk23
                      case yk23 => (intro wx hSw; skip; go_simp; first | done | with_reducible rfl | (intro hh; omega) | skip)
                      try simp only [Act.put, List.setIfInBounds_toArray, List.set_cons_zero, List.set_cons_succ]
                      refine wpAnyH_take (S := (fun wx => Below w9.heap.size w9 wx)) (i := 24) (oi := { dst := some 123, op := Go.Op.fieldAddr 42 (Go.Operand.tmp 17) 2, type := 0, pos := "law.go:78", after := #[{ on := 23, ground := Go.Ground.guard }], guard := some (23, false) }) (v := ?vk24) rfl (by kernel_rfl) (by kernel_rfl) (by kernel_rfl) (fun _ _ _ h => h) (Or.inl ⟨by rfl, ?yk24⟩) HS ?rk24
                      case yk24 => (intro wx hSw; skip; go_simp; first | done | with_reducible rfl | (intro hh; omega) | skip)
                      try simp only [Act.put, List.setIfInBounds_toArray, List.set_cons_zero, List.set_cons_succ]
                      refine wpAnyH_take (S := (fun wx => Below w9.heap.size w9 wx)) (i := 25) (oi := { dst := some 124, op := Go.Op.load 2 (Go.Operand.tmp 123), type := 2, pos := "law.go:78", after := #[{ on := 24, ground := Go.Ground.data }, { on := 23, ground := Go.Ground.guard }], guard := some (23, false) }) (v := ?vk25) rfl (by kernel_rfl) (by kernel_rfl) (by kernel_rfl) (fun _ _ _ h => h) (Or.inl ⟨by rfl, ?yk25⟩) HS ?rk25
                      case yk25 => (intro wx hSw; obtain ⟨⟨p0, p1, p2, p3, p4, p5⟩, -⟩ := row6 (hp_on B9.out hSw); go_simp; first | done | with_reducible rfl | (intro hh; omega) | skip)
                      try simp only [Act.put, List.setIfInBounds_toArray, List.set_cons_zero, List.set_cons_succ]
                      refine wpAnyH_take (S := (fun wx => Below w9.heap.size w9 wx)) (i := 26) (oi := { dst := some 125, op := Go.Op.fieldAddr 42 (Go.Operand.tmp 17) 1, type := 0, pos := "law.go:78", after := #[{ on := 23, ground := Go.Ground.guard }], guard := some (23, false) }) (v := ?vk26) rfl (by kernel_rfl) (by kernel_rfl) (by kernel_rfl) (fun _ _ _ h => h) (Or.inl ⟨by rfl, ?yk26⟩) HS ?rk26
                      case yk26 => (intro wx hSw; skip; go_simp; first | done | with_reducible rfl | (intro hh; omega) | skip)
                      try simp only [Act.put, List.setIfInBounds_toArray, List.set_cons_zero, List.set_cons_succ]
                      refine wpAnyH_take (S := (fun wx => Below w9.heap.size w9 wx)) (i := 27) (oi := { dst := some 126, op := Go.Op.load 2 (Go.Operand.tmp 125), type := 2, pos := "law.go:78", after := #[{ on := 26, ground := Go.Ground.data }, { on := 23, ground := Go.Ground.guard }], guard := some (23, false) }) (v := ?vk27) rfl (by kernel_rfl) (by kernel_rfl) (by kernel_rfl) (fun _ _ _ h => h) (Or.inl ⟨by rfl, ?yk27⟩) HS ?rk27
                      case yk27 => (intro wx hSw; obtain ⟨⟨p0, p1, p2, p3, p4, p5⟩, -⟩ := row6 (hp_on B9.out hSw); go_simp; first | done | with_reducible rfl | (intro hh; omega) | skip)
                      try simp only [Act.put, List.setIfInBounds_toArray, List.set_cons_zero, List.set_cons_succ]
                      refine wpAnyH_take (S := (fun wx => Below w9.heap.size w9 wx)) (i := 28) (oi := { dst := some 127, op := Go.Op.binOp Go.BinOp.gtr 2 (Go.Operand.tmp 124) (Go.Operand.tmp 126) 2, type := 4, pos := "law.go:78", after := #[{ on := 25, ground := Go.Ground.data }, { on := 27, ground := Go.Ground.data }, { on := 23, ground := Go.Ground.guard }], guard := some (23, false) }) (v := ?vk28) rfl (by kernel_rfl) (by kernel_rfl) (by kernel_rfl) (fun _ _ _ h => h) (Or.inl ⟨by rfl, ?yk28⟩) HS ?rk28
                      case yk28 => (intro wx hSw; skip; go_simp; first | done | with_reducible rfl | (intro hh; omega) | skip)
                      try simp only [Act.put, List.setIfInBounds_toArray, List.set_cons_zero, List.set_cons_succ]
                      refine wpAnyH_take (S := (fun wx => Below w9.heap.size w9 wx)) (i := 29) (oi := { dst := some 128, op := Go.Op.pick (Go.Operand.tmp 122) (Go.Operand.const (Go.Value.bool true)) (Go.Operand.tmp 127), type := 4, pos := "law.go:78", after := #[{ on := 23, ground := Go.Ground.data }, { on := 28, ground := Go.Ground.data }], guard := none }) (v := ?vk29) rfl (by kernel_rfl) (by kernel_rfl) (by kernel_rfl) (fun _ _ _ h => h) (Or.inl ⟨by rfl, ?yk29⟩) HS ?rk29
                      case yk29 => (intro wx hSw; skip; go_simp; first | done | with_reducible rfl | (intro hh; omega) | skip)
                      try simp only [Act.put, List.setIfInBounds_toArray, List.set_cons_zero, List.set_cons_succ]
                      refine wpAnyH_take (S := (fun wx => Below w9.heap.size w9 wx)) (i := 30) (oi := { dst := some 129, op := Go.Op.move (Go.Operand.tmp 128), type := 4, pos := "law.go:78", after := #[{ on := 29, ground := Go.Ground.data }, { on := 23, ground := Go.Ground.chain }], guard := none }) (v := ?vk30) rfl (by kernel_rfl) (by kernel_rfl) (by kernel_rfl) (fun _ _ _ h => h) (Or.inl ⟨by rfl, ?yk30⟩) HS ?rk30
                      case yk30 => (intro wx hSw; skip; go_simp; first | done | with_reducible rfl | (intro hh; omega) | skip)
                      try simp only [Act.put, List.setIfInBounds_toArray, List.set_cons_zero, List.set_cons_succ]
                      refine wpAnyH_take (S := (fun wx => Below w9.heap.size w9 wx)) (i := 31) (oi := { dst := some 130, op := Go.Op.fieldAddr 42 (Go.Operand.tmp 17) 0, type := 0, pos := "law.go:78", after := #[{ on := 30, ground := Go.Ground.guard }], guard := some (30, false) }) (v := ?vk31) rfl (by kernel_rfl) (by kernel_rfl) (by kernel_rfl) (fun _ _ _ h => h) (Or.inl ⟨by rfl, ?yk31⟩) HS ?rk31
                      case yk31 => (intro wx hSw; skip; go_simp; first | done | with_reducible rfl | (intro hh; omega) | skip)
                      try simp only [Act.put, List.setIfInBounds_toArray, List.set_cons_zero, List.set_cons_succ]
                      refine wpAnyH_take (S := (fun wx => Below w9.heap.size w9 wx)) (i := 32) (oi := { dst := some 131, op := Go.Op.load 2 (Go.Operand.tmp 130), type := 2, pos := "law.go:78", after := #[{ on := 31, ground := Go.Ground.data }, { on := 30, ground := Go.Ground.guard }], guard := some (30, false) }) (v := ?vk32) rfl (by kernel_rfl) (by kernel_rfl) (by kernel_rfl) (fun _ _ _ h => h) (Or.inl ⟨by rfl, ?yk32⟩) HS ?rk32
                      case yk32 => (intro wx hSw; obtain ⟨⟨p0, p1, p2, p3, p4, p5⟩, -⟩ := row6 (hp_on B9.out hSw); go_simp; first | done | with_reducible rfl | (intro hh; omega) | skip)
                      try simp only [Act.put, List.setIfInBounds_toArray, List.set_cons_zero, List.set_cons_succ]
                      refine wpAnyH_take (S := (fun wx => Below w9.heap.size w9 wx)) (i := 33) (oi := { dst := some 132, op := Go.Op.fieldAddr 42 (Go.Operand.tmp 17) 2, type := 0, pos := "law.go:78", after := #[{ on := 30, ground := Go.Ground.guard }], guard := some (30, false) }) (v := ?vk33) rfl (by kernel_rfl) (by kernel_rfl) (by kernel_rfl) (fun _ _ _ h => h) (Or.inl ⟨by rfl, ?yk33⟩) HS ?rk33
                      case yk33 => (intro wx hSw; skip; go_simp; first | done | with_reducible rfl | (intro hh; omega) | skip)
                      try simp only [Act.put, List.setIfInBounds_toArray, List.set_cons_zero, List.set_cons_succ]
                      refine wpAnyH_take (S := (fun wx => Below w9.heap.size w9 wx)) (i := 34) (oi := { dst := some 133, op := Go.Op.load 2 (Go.Operand.tmp 132), type := 2, pos := "law.go:78", after := #[{ on := 33, ground := Go.Ground.data }, { on := 30, ground := Go.Ground.guard }], guard := some (30, false) }) (v := ?vk34) rfl (by kernel_rfl) (by kernel_rfl) (by kernel_rfl) (fun _ _ _ h => h) (Or.inl ⟨by rfl, ?yk34⟩) HS ?rk34
                      case yk34 => (intro wx hSw; obtain ⟨⟨p0, p1, p2, p3, p4, p5⟩, -⟩ := row6 (hp_on B9.out hSw); go_simp; first | done | with_reducible rfl | (intro hh; omega) | skip)
                      try simp only [Act.put, List.setIfInBounds_toArray, List.set_cons_zero, List.set_cons_succ]
                      refine wpAnyH_take (S := (fun wx => Below w9.heap.size w9 wx)) (i := 35) (oi := { dst := some 134, op := Go.Op.binOp Go.BinOp.lss 2 (Go.Operand.tmp 131) (Go.Operand.tmp 133) 2, type := 4, pos := "law.go:78", after := #[{ on := 32, ground := Go.Ground.data }, { on := 34, ground := Go.Ground.data }, { on := 30, ground := Go.Ground.guard }], guard := some (30, false) }) (v := ?vk35) rfl (by kernel_rfl) (by kernel_rfl) (by kernel_rfl) (fun _ _ _ h => h) (Or.inl ⟨by rfl, ?yk35⟩) HS ?rk35
                      case yk35 => (intro wx hSw; skip; go_simp; first | done | with_reducible rfl | (intro hh; omega) | skip)
                      try simp only [Act.put, List.setIfInBounds_toArray, List.set_cons_zero, List.set_cons_succ]
                      refine wpAnyH_take (S := (fun wx => Below w9.heap.size w9 wx)) (i := 36) (oi := { dst := some 135, op := Go.Op.pick (Go.Operand.tmp 129) (Go.Operand.const (Go.Value.bool true)) (Go.Operand.tmp 134), type := 4, pos := "law.go:78", after := #[{ on := 30, ground := Go.Ground.data }, { on := 35, ground := Go.Ground.data }], guard := none }) (v := ?vk36) rfl (by kernel_rfl) (by kernel_rfl) (by kernel_rfl) (fun _ _ _ h => h) (Or.inl ⟨by rfl, ?yk36⟩) HS ?rk36
                      case yk36 => (intro wx hSw; skip; go_simp; first | done | with_reducible rfl | (intro hh; omega) | skip)
                      try simp only [Act.put, List.setIfInBounds_toArray, List.set_cons_zero, List.set_cons_succ]
                      refine wpAnyH_take (S := (fun wx => Below w9.heap.size w9 wx)) (i := 37) (oi := { dst := some 136, op := Go.Op.move (Go.Operand.tmp 135), type := 4, pos := "law.go:78", after := #[{ on := 36, ground := Go.Ground.data }, { on := 30, ground := Go.Ground.chain }], guard := none }) (v := ?vk37) rfl (by kernel_rfl) (by kernel_rfl) (by kernel_rfl) (fun _ _ _ h => h) (Or.inl ⟨by rfl, ?yk37⟩) HS ?rk37
                      case yk37 => (intro wx hSw; skip; go_simp; first | done | with_reducible rfl | (intro hh; omega) | skip)
                      try simp only [Act.put, List.setIfInBounds_toArray, List.set_cons_zero, List.set_cons_succ]
                      refine wpAnyH_take (S := (fun wx => Below w9.heap.size w9 wx)) (i := 38) (oi := { dst := some 137, op := Go.Op.fieldAddr 42 (Go.Operand.tmp 17) 3, type := 0, pos := "law.go:78", after := #[{ on := 37, ground := Go.Ground.guard }], guard := some (37, false) }) (v := ?vk38) rfl (by kernel_rfl) (by kernel_rfl) (by kernel_rfl) (fun _ _ _ h => h) (Or.inl ⟨by rfl, ?yk38⟩) HS ?rk38
                      case yk38 => (intro wx hSw; skip; go_simp; first | done | with_reducible rfl | (intro hh; omega) | skip)
                      try simp only [Act.put, List.setIfInBounds_toArray, List.set_cons_zero, List.set_cons_succ]
                      refine wpAnyH_take (S := (fun wx => Below w9.heap.size w9 wx)) (i := 39) (oi := { dst := some 138, op := Go.Op.load 2 (Go.Operand.tmp 137), type := 2, pos := "law.go:78", after := #[{ on := 38, ground := Go.Ground.data }, { on := 37, ground := Go.Ground.guard }], guard := some (37, false) }) (v := ?vk39) rfl (by kernel_rfl) (by kernel_rfl) (by kernel_rfl) (fun _ _ _ h => h) (Or.inl ⟨by rfl, ?yk39⟩) HS ?rk39
                      case yk39 => (intro wx hSw; obtain ⟨⟨p0, p1, p2, p3, p4, p5⟩, -⟩ := row6 (hp_on B9.out hSw); go_simp; first | done | with_reducible rfl | (intro hh; omega) | skip)
                      try simp only [Act.put, List.setIfInBounds_toArray, List.set_cons_zero, List.set_cons_succ]
                      refine wpAnyH_take (S := (fun wx => Below w9.heap.size w9 wx)) (i := 40) (oi := { dst := some 139, op := Go.Op.fieldAddr 42 (Go.Operand.tmp 17) 1, type := 0, pos := "law.go:78", after := #[{ on := 37, ground := Go.Ground.guard }], guard := some (37, false) }) (v := ?vk40) rfl (by kernel_rfl) (by kernel_rfl) (by kernel_rfl) (fun _ _ _ h => h) (Or.inl ⟨by rfl, ?yk40⟩) HS ?rk40
                      case yk40 => (intro wx hSw; skip; go_simp; first | done | with_reducible rfl | (intro hh; omega) | skip)
                      try simp only [Act.put, List.setIfInBounds_toArray, List.set_cons_zero, List.set_cons_succ]
                      refine wpAnyH_take (S := (fun wx => Below w9.heap.size w9 wx)) (i := 41) (oi := { dst := some 140, op := Go.Op.load 2 (Go.Operand.tmp 139), type := 2, pos := "law.go:78", after := #[{ on := 40, ground := Go.Ground.data }, { on := 37, ground := Go.Ground.guard }], guard := some (37, false) }) (v := ?vk41) rfl (by kernel_rfl) (by kernel_rfl) (by kernel_rfl) (fun _ _ _ h => h) (Or.inl ⟨by rfl, ?yk41⟩) HS ?rk41
                      case yk41 => (intro wx hSw; obtain ⟨⟨p0, p1, p2, p3, p4, p5⟩, -⟩ := row6 (hp_on B9.out hSw); go_simp; first | done | with_reducible rfl | (intro hh; omega) | skip)
                      try simp only [Act.put, List.setIfInBounds_toArray, List.set_cons_zero, List.set_cons_succ]
                      refine wpAnyH_take (S := (fun wx => Below w9.heap.size w9 wx)) (i := 42) (oi := { dst := some 141, op := Go.Op.binOp Go.BinOp.gtr 2 (Go.Operand.tmp 138) (Go.Operand.tmp 140) 2, type := 4, pos := "law.go:78", after := #[{ on := 39, ground := Go.Ground.data }, { on := 41, ground := Go.Ground.data }, { on := 37, ground := Go.Ground.guard }], guard := some (37, false) }) (v := ?vk42) rfl (by kernel_rfl) (by kernel_rfl) (by kernel_rfl) (fun _ _ _ h => h) (Or.inl ⟨by rfl, ?yk42⟩) HS ?rk42
                      case yk42 => (intro wx hSw; skip; go_simp; first | done | with_reducible rfl | (intro hh; omega) | skip)
                      try simp only [Act.put, List.setIfInBounds_toArray, List.set_cons_zero, List.set_cons_succ]
                      refine wpAnyH_take (S := (fun wx => Below w9.heap.size w9 wx)) (i := 43) (oi := { dst := some 142, op := Go.Op.pick (Go.Operand.tmp 136) (Go.Operand.const (Go.Value.bool true)) (Go.Operand.tmp 141), type := 4, pos := "law.go:78", after := #[{ on := 37, ground := Go.Ground.data }, { on := 42, ground := Go.Ground.data }], guard := none }) (v := ?vk43) rfl (by kernel_rfl) (by kernel_rfl) (by kernel_rfl) (fun _ _ _ h => h) (Or.inl ⟨by rfl, ?yk43⟩) HS ?rk43
                      case yk43 => (intro wx hSw; skip; go_simp; first | done | with_reducible rfl | (intro hh; omega) | skip)
                      try simp only [Act.put, List.setIfInBounds_toArray, List.set_cons_zero, List.set_cons_succ]
                      refine wpAnyH_done (by kernel_rfl) ?_ _
                      refine NoPanic.normal ?_
                      go_wp2
                      go_meet
                      case rel => exact ⟨rfl, HS⟩
                case rest =>
                obtain ⟨rfl, hb10⟩ := hcut
                have H10 := Lib.hid (below_on H9.out H9.out.size hb10)
                clear hb10 g1 g2 g3 B9 cB cS
                go_wp2
                go_roundw
                case rel => exact ⟨k + 1, by omega, by go_num, H10.out⟩
                case measure => simp [intOf]; omega
              · obtain rfl : k = y.length := by omega
                go_wp2
                go_ret
                exact ⟨rfl, below_on W8.out W8.out.size hbk⟩
      · have h3' : (e3 != 0) = true := by simpa using h3
        subst h1 h2
        clear HM HT h3
        go_enter Try.func4, Try.ntmps4
        go_wp2_with (first
          | (go_at_call 5; (with_reducible refine (awake35_any _).mono ?_); rintro e w1 ⟨rfl, hb1⟩; have W1 := Lib.hid hb1; clear hb1)
          | (go_at_call 8; (with_reducible refine (cT.out _ (HRA.out.below W1.out)).mono ?_); rintro e w3 ⟨g3, rfl, hk3, hb3⟩
             have K3 := Lib.hid hk3
             have W3 := Lib.hid (below_on W1.out W1.out.size hb3)
             clear hk3 hb3 W1)
          | (go_at_call 7; (with_reducible refine (cO1.out _ _ K3.out).mono ?_); rintro e w4 ⟨X, cx, rfl, h1, h2, h3, h4⟩
             have O4 := Lib.hid (And.intro h1 h3)
             have W4 := Lib.hid (below_on W3.out W3.out.size h4)
             clear h1 h2 h3 h4 K3)
          | (go_at_call 11; (with_reducible refine (cF.out _ _ _ O4.out.2.1 O4.out.2.2 O4.out.1).mono ?_); rintro e w5 ⟨Y, cy, rfl, h1, h2, h3, h4⟩
             have O5 := Lib.hid h1
             have W5 := Lib.hid (below_on W4.out W4.out.size h4)
             clear h1 h2 h3 h4)
          | (go_at_call 8; (with_reducible refine (cT.out _ (HRA.out.below W5.out)).mono ?_); rintro e w6 ⟨g6, rfl, hk6, hb6⟩
             have K6 := Lib.hid hk6
             have W6 := Lib.hid (below_on W5.out W5.out.size hb6)
             have O6 := Lib.hid (O5.out.on hb6)
             clear hk6 hb6)
          | (go_at_call 7; (with_reducible refine (cO2.out _ _ K6.out).mono ?_); rintro e w7 ⟨Z, cz, rfl, h1, h2, h3, h4⟩
             have O7 := Lib.hid (And.intro (O6.out.on h4) h1)
             have W7 := Lib.hid (below_on W6.out W6.out.size h4)
             clear h1 h2 h3 h4))
        go_ret
        exact ⟨rfl, W7.out⟩
    · have h2' : (e2 != 0) = true := by simpa using h2
      subst h1
      clear HM HT h2
      go_enter Try.func4, Try.ntmps4
      go_wp2_with (first
        | (go_at_call 5; (with_reducible refine (awake35_any _).mono ?_); rintro e w1 ⟨rfl, hb1⟩; have W1 := Lib.hid hb1; clear hb1)
        | (go_at_call 8; (with_reducible refine (cT.out _ (HRA.out.below W1.out)).mono ?_); rintro e w3 ⟨g3, rfl, hk3, hb3⟩
           have K3 := Lib.hid hk3
           have W3 := Lib.hid (below_on W1.out W1.out.size hb3)
           clear hk3 hb3 W1)
        | (go_at_call 7; (with_reducible refine (cO1.out _ _ K3.out).mono ?_); rintro e w4 ⟨X, cx, rfl, h1, h2, h3, h4⟩
           have O4 := Lib.hid (And.intro h1 h3)
           have W4 := Lib.hid (below_on W3.out W3.out.size h4)
           clear h1 h2 h3 h4 K3)
        | (go_at_call 11; (with_reducible refine (cF.out _ _ _ O4.out.2.1 O4.out.2.2 O4.out.1).mono ?_); rintro e w5 ⟨Y, cy, rfl, h1, h2, h3, h4⟩
           have O5 := Lib.hid h1
           have W5 := Lib.hid (below_on W4.out W4.out.size h4)
           clear h1 h2 h3 h4)
        | (go_at_call 8; (with_reducible refine (cT.out _ (HRA.out.below W5.out)).mono ?_); rintro e w6 ⟨g6, rfl, hk6, hb6⟩
           have K6 := Lib.hid hk6
           have W6 := Lib.hid (below_on W5.out W5.out.size hb6)
           have O6 := Lib.hid (O5.out.on hb6)
           clear hk6 hb6)
        | (go_at_call 7; (with_reducible refine (cO2.out _ _ K6.out).mono ?_); rintro e w7 ⟨Z, cz, rfl, h1, h2, h3, h4⟩
           have O7 := Lib.hid (And.intro (O6.out.on h4) h1)
           have W7 := Lib.hid (below_on W6.out W6.out.size h4)
           clear h1 h2 h3 h4))
      go_ret
      exact ⟨rfl, W7.out⟩
  · have h1' : (e1 != 0) = true := by simpa using h1
    clear HM HT h1
    go_enter Try.func4, Try.ntmps4
    go_wp2_with (first
      | (go_at_call 5; (with_reducible refine (awake35_any _).mono ?_); rintro e w1 ⟨rfl, hb1⟩; have W1 := Lib.hid hb1; clear hb1)
      | (go_at_call 8; (with_reducible refine (cT.out _ (HRA.out.below W1.out)).mono ?_); rintro e w3 ⟨g3, rfl, hk3, hb3⟩
         have K3 := Lib.hid hk3
         have W3 := Lib.hid (below_on W1.out W1.out.size hb3)
         clear hk3 hb3 W1)
      | (go_at_call 7; (with_reducible refine (cO1.out _ _ K3.out).mono ?_); rintro e w4 ⟨X, cx, rfl, h1, h2, h3, h4⟩
         have O4 := Lib.hid (And.intro h1 h3)
         have W4 := Lib.hid (below_on W3.out W3.out.size h4)
         clear h1 h2 h3 h4 K3)
      | (go_at_call 11; (with_reducible refine (cF.out _ _ _ O4.out.2.1 O4.out.2.2 O4.out.1).mono ?_); rintro e w5 ⟨Y, cy, rfl, h1, h2, h3, h4⟩
         have O5 := Lib.hid h1
         have W5 := Lib.hid (below_on W4.out W4.out.size h4)
         clear h1 h2 h3 h4)
      | (go_at_call 8; (with_reducible refine (cT.out _ (HRA.out.below W5.out)).mono ?_); rintro e w6 ⟨g6, rfl, hk6, hb6⟩
         have K6 := Lib.hid hk6
         have W6 := Lib.hid (below_on W5.out W5.out.size hb6)
         have O6 := Lib.hid (O5.out.on hb6)
         clear hk6 hb6)
      | (go_at_call 7; (with_reducible refine (cO2.out _ _ K6.out).mono ?_); rintro e w7 ⟨Z, cz, rfl, h1, h2, h3, h4⟩
         have O7 := Lib.hid (And.intro (O6.out.on h4) h1)
         have W7 := Lib.hid (below_on W6.out W6.out.size h4)
         clear h1 h2 h3 h4))
    go_ret
    exact ⟨rfl, W7.out⟩
end Go.Proofs.Ytfgahmkfhlbogaa.Ca
