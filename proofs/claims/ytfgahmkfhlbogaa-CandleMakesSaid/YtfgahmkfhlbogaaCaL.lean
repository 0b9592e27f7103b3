/-
  The document's candle of prices and sizes (bourseref35.All), walked. Conditions: the numbers are of 64 bits.
-/
import Derived.Test.YtfgahmkfhlbogaaCaK
import Derived.Test.YtfgahmkfhlbogaaAmB
namespace Go.Proofs.Ytfgahmkfhlbogaa.Ca
open Go.RowKit Go.Shelf
open Go.Proofs.Ytfgahmkfhlbogaa Go.Proofs.Ytfgahmkfhlbogaa.Hx

theorem join_z0 (d : Cd) : join z0 d = (d, 0) := by
  have h : z0.n = 0 := rfl
  unfold join; rw [if_pos h]
/-- so many trades -/
theorem joins_n : ∀ (l : List Tk) (c : Cd), 0 ≤ c.n → c.n + l.length ≤ 9223372036854775807 → (joins c (l.map tkd)).2 = 0 → (joins c (l.map tkd)).1.n = c.n + l.length
  | [], c, _, _, _ => by simp [joins]
  | t :: l, c, h0, hb, h => by
    simp only [List.map_cons, List.length_cons] at hb h ⊢
    by_cases hj : (join c (tkd t)).2 = 0
    · rw [joins_cons0 hj] at h ⊢
      have e : (join c (tkd t)).1.n = c.n + 1 := by
        unfold join at hj ⊢
        have ht : (tkd t).n = 1 := rfl
        by_cases h1 : c.n = 0
        · rw [if_pos h1, h1]; rfl
        · rw [if_neg h1] at hj ⊢
          rw [if_neg (by rw [ht]; omega)] at hj ⊢
          by_cases h2 : Am.rg (c.s + (tkd t).s)
          · rw [if_pos h2]
            simp only [ht]
            exact Am.wrap_rg (by unfold Am.rg; omega)
          · rw [if_neg h2] at hj
            simp at hj
      have := joins_n l (join c (tkd t)).1 (by omega) (by omega) h
      rw [this, e]
      omega
    · rw [joins_cons1 hj] at h
      exact absurd h hj
def AllR (w : World) (l : List Tk) (i : Value) (wr : World) : Prop :=
  ∃ k : Nat, k ≤ l.length ∧ i = .int .i64 k ∧ (joins z0 ((l.take k).map tkd)).2 = 0 ∧ wr.heap[w.heap.size]? = some (.cells (ccs z0) 55 (0, 0)) ∧
    wr.heap[w.heap.size + 1]? = some (.cells (ccs (joins z0 ((l.take k).map tkd)).1) 55 (0, 0)) ∧ Below w.heap.size w wr
set_option maxHeartbeats 4000000 in
set_option maxRecDepth 100000 in
theorem all_any (Ap As : Option Addr) (cp cs : Nat) (l : List Tk) (hl : l.length ≤ 1000) (hok : ∀ x ∈ l, Am.rg x.p ∧ Am.rg x.s) (w : World) (RP : NRow w Ap (l.map (·.p))) (RS : NRow w As (l.map (·.s))) :
    Calls Try.prog 18 #[.slice Ap l.length cp, .slice As l.length cs] w (JsQ (joins z0 (l.map tkd)) w) := by
  have HRP := Lib.hid RP
  have HRS := Lib.hid RS
  have HOK := Lib.hid hok
  have hlc : (l.length : Int) ≤ 1000 := by omega
  have S1 := Lib.hid (hp_first w (.cells (ccs z0) 55 (0, 0)) (.cells (ccs z0) 55 (0, 0)))
  have S2 := Lib.hid (hp_second w (.cells (ccs z0) 55 (0, 0)) (.cells (ccs z0) 55 (0, 0)))
  have S3 : Hid (Below w.heap.size w ((w.alloc (.cells (ccs z0) 55)).alloc (.cells (ccs z0) 55))) := Lib.hid (((Below.refl _ w).alloc (Nat.le_refl _) _).alloc (by simp) _)
  clear RP RS hok
  go_enter Try.func18, Try.ntmps18
  go_wp2
  go_loopw [13] (fun i wr => AllR w l i wr) (fun i _ => l.length - (intOf i).toNat)
  case atStart => exact ⟨0, by omega, rfl, rfl, S1.out, S2.out, S3.out⟩
  case round =>
    clear S1 S2 S3
    obtain ⟨k, hk, rfl, h0, hz, hb6, hb⟩ := hrel
    have hsz : w.heap.size + 1 < wr.heap.size := hp_lt hb6
    by_cases h1 : k < l.length
    · obtain ⟨ap, rfl, hap, hcp⟩ := HRP.out (by simp; omega)
      obtain ⟨az, rfl, has, hcs⟩ := HRS.out (by simp; omega)
      have xp := (hb.cell (p := ap.add k) (by rw [block_add]; exact hap)).trans (hcp k (by simp; omega))
      have xs := (hb.cell (p := az.add k) (by rw [block_add]; exact has)).trans (hcs k (by simp; omega))
      rw [List.getElem_map] at xp xs
      obtain ⟨ok1, ok2⟩ := HOK.out l[k] (List.getElem_mem h1)
      have has2 : (az.add k).block < wr.heap.size := by rw [block_add]; omega
      have HT : Hid ((l.take (k + 1)).map tkd = (l.take k).map tkd ++ [tkd l[k]]) := by rw [Hid, List.take_succ_eq_append_getElem h1, List.map_append]; rfl
      have HD : Hid (l.map tkd = (l.take (k + 1)).map tkd ++ (l.drop (k + 1)).map tkd) := by rw [Hid, ← List.map_append, List.take_append_drop]
      have hj := joins_ok ((l.take k).map tkd) z0 z0_ok (fun d hd => by obtain ⟨e, he, rfl⟩ := List.mem_map.1 hd; exact one_ok (HOK.out e (List.mem_of_mem_take he)).1 (HOK.out e (List.mem_of_mem_take he)).2)
      have hn := joins_n (l.take k) z0 (by decide) (by simp [z0]; omega) h0
      rw [List.length_take, Nat.min_eq_left (by omega), show z0.n = 0 from rfl, Int.zero_add] at hn
      clear hcp hcs
      generalize l[k] = y at *
      generalize hlt : (l.take k).map tkd = lt at *
      generalize hq : (joins z0 lt).1 = q at *
      obtain ⟨pr, sz⟩ := y
      simp only at xp xs ok1 ok2
      have HQ := Lib.hid hq
      have HLT := Lib.hid hlt
      clear hq hlt
      have B6 := Lib.hid hb6
      obtain ⟨⟨q0, q1, q2, q3, q4, q5⟩, g0, g1, g2, g3, g4, g5⟩ := row6 hb6
      obtain ⟨⟨r0, r1, r2, r3, r4, r5⟩, f0, f1, f2, f3, f4, f5⟩ := row6 hz
      have HZ := Lib.hid hz
      clear hz hb6
      by_cases hk0 : k = 0
      · have hlt0 : lt = [] := by rw [← HLT.out, hk0]; rfl
        have xs0 : wr.cell? az = some (.int .i64 sz) := by rw [hk0] at xs; exact xs
        have hk1 : ((k : Int) == 0) = true := by rw [hk0]; rfl
        have hkl : (k : Int) < (l.length : Int) := by omega
        have HE := Lib.hid hlt0
        have HK := Lib.hid hk0
        clear hlt0 hn h0 hk0
        go_wp2
        go_roundw
        case rel =>
          have e2 : joins z0 (lt ++ [tkd ⟨pr, sz⟩]) = (one ⟨pr, sz⟩, 0) := by rw [HE.out, List.nil_append, joins_cons0 (by rw [join_z0]), join_z0]; rfl
          refine ⟨k + 1, by omega, by go_num, by rw [HT.out, e2], ?_, ?_, ?_⟩
          · exact set_other (set_other (set_other (set_other (set_other (set_other HZ.out (by omega) _) (by omega) _) (by omega) _) (by omega) _) (by omega) _) (by omega) _
          · rw [HT.out, e2]; exact set6_row (d := one ⟨pr, sz⟩) B6.out
          · exact (((((hb.setCell (by simp) _).setCell (by simp) _).setCell (by simp) _).setCell (by simp) _).setCell (by simp) _).setCell (by simp) _
        case measure => simp [intOf]; omega
      · have cA := Lib.hid (fun W => radd_any q.s sz hj.s ok2 W)
        have hk1 : ((k : Int) == 0) = false := by simp; omega
        have hkI : (0 : Int) ≤ (k : Int) := by omega
        have hkt : ((k : Int)).toNat = k := by omega
        have hkl : (k : Int) < (l.length : Int) := by omega
        have HN := Lib.hid hn
        have HJ := Lib.hid hj
        have hnb : 0 < q.n ∧ q.n ≤ 1000 := by omega
        obtain ⟨hn1, hn2⟩ := hnb
        clear hn hj
        go_upto_region 7 with fail
        obtain ⟨z1, hz1⟩ : ∃ z, z = Am.okv (q.s + sz) := ⟨_, rfl⟩
        obtain ⟨m, hm⟩ : ∃ m, m = Am.erv (q.s + sz) := ⟨_, rfl⟩
        rw [← hz1, ← hm] at cA
        have HZM := Lib.hid (And.intro hz1 hm)
        clear hz1 hm q0 q1 q2 q3 q4 q5 g0 g1 g2 g3 g4 g5 r0 r1 r2 r3 r4 r5 f0 f1 f2 f3 f4 f5
        go_cut [9, 10] (fun s9 s10 wx => s9 = .int .i64 z1 ∧ s10 = .int .i64 m ∧ Below wr.heap.size wr wx)
        case first =>
          refine wp_region_noPanic ?_
          refine wp_region_held_drew (S := (fun wx => Below wr.heap.size wr wx)) (by kernel_rfl) (⟨rfl, rfl, rfl, Nat.le_refl _, fun _ _ => rfl⟩) (fun HS => ?_)
          refine wpAnyH_take (S := (fun wx => Below wr.heap.size wr wx)) (i := 0) (oi := { dst := some 29, op := Go.Op.fieldAddr 55 (Go.Operand.tmp 6) 4, type := 0, pos := "ref.go:21", after := #[], guard := none }) (v := ?vd1) rfl (by kernel_rfl) (by kernel_rfl) (by kernel_rfl) (fun _ _ _ h => h) (Or.inl ⟨by rfl, ?yd1⟩) HS ?rd1
          case yd1 => (intro wx hSw; skip; go_simp; first | done | with_reducible rfl | (intro hh; omega) | skip)
          try simp only [Act.put, List.setIfInBounds_toArray, List.set_cons_zero, List.set_cons_succ]
          refine wpAnyH_take (S := (fun wx => Below wr.heap.size wr wx)) (i := 1) (oi := { dst := some 30, op := Go.Op.load 2 (Go.Operand.tmp 29), type := 2, pos := "ref.go:21", after := #[{ on := 0, ground := Go.Ground.data }], guard := none }) (v := ?vd2) rfl (by kernel_rfl) (by kernel_rfl) (by kernel_rfl) (fun _ _ _ h => h) (Or.inl ⟨by rfl, ?yd2⟩) HS ?rd2
          case yd2 => (intro wx hSw; obtain ⟨⟨p0, p1, p2, p3, p4, p5⟩, -⟩ := row6 (hp_on B6.out hSw); go_simp; first | done | with_reducible rfl | (intro hh; omega) | skip)
          try simp only [Act.put, List.setIfInBounds_toArray, List.set_cons_zero, List.set_cons_succ]
          refine wpAnyH_take (S := (fun wx => Below wr.heap.size wr wx)) (i := 2) (oi := { dst := some 31, op := Go.Op.move (Go.Operand.tmp 1), type := 24, pos := "ref.go:21", after := #[], guard := none }) (v := ?vd3) rfl (by kernel_rfl) (by kernel_rfl) (by kernel_rfl) (fun _ _ _ h => h) (Or.inl ⟨by rfl, ?yd3⟩) HS ?rd3
          case yd3 => (intro wx hSw; skip; go_simp; first | done | with_reducible rfl | (intro hh; omega) | skip)
          try simp only [Act.put, List.setIfInBounds_toArray, List.set_cons_zero, List.set_cons_succ]
          refine wpAnyH_take (S := (fun wx => Below wr.heap.size wr wx)) (i := 3) (oi := { dst := some 32, op := Go.Op.move (Go.Operand.tmp 7), type := 3, pos := "ref.go:21", after := #[], guard := none }) (v := ?vd4) rfl (by kernel_rfl) (by kernel_rfl) (by kernel_rfl) (fun _ _ _ h => h) (Or.inl ⟨by rfl, ?yd4⟩) HS ?rd4
          case yd4 => (intro wx hSw; skip; go_simp; first | done | with_reducible rfl | (intro hh; omega) | skip)
          try simp only [Act.put, List.setIfInBounds_toArray, List.set_cons_zero, List.set_cons_succ]
          refine wpAnyH_take (S := (fun wx => Below wr.heap.size wr wx)) (i := 4) (oi := { dst := some 33, op := Go.Op.indexAddr 24 (Go.Operand.tmp 31) (Go.Operand.tmp 32), type := 0, pos := "ref.go:21", after := #[{ on := 2, ground := Go.Ground.data }, { on := 3, ground := Go.Ground.data }], guard := none }) (v := ?vd5) rfl (by kernel_rfl) (by kernel_rfl) (by kernel_rfl) (fun _ _ _ h => h) (Or.inl ⟨by rfl, ?yd5⟩) HS ?rd5
          case yd5 => (intro wx hSw; skip; go_simp; first | done | with_reducible rfl | (intro hh; omega) | skip)
          try simp only [Act.put, List.setIfInBounds_toArray, List.set_cons_zero, List.set_cons_succ]
          refine wpAnyH_take (S := (fun wx => Below wr.heap.size wr wx)) (i := 5) (oi := { dst := some 34, op := Go.Op.load 2 (Go.Operand.tmp 33), type := 2, pos := "ref.go:21", after := #[{ on := 4, ground := Go.Ground.data }], guard := none }) (v := ?vd6) rfl (by kernel_rfl) (by kernel_rfl) (by kernel_rfl) (fun _ _ _ h => h) (Or.inl ⟨by rfl, ?yd6⟩) HS ?rd6
          case yd6 => (intro wx hSw; have y1 := (hSw.cell (p := az.add k) has2).trans xs; go_simp; first | done | with_reducible rfl | (intro hh; omega) | skip)
          try simp only [Act.put, List.setIfInBounds_toArray, List.set_cons_zero, List.set_cons_succ]
          refine wpAnyH_ready (rs := [6]) (by kernel_rfl) (by simp) ?_
          refine AllReadyH.cons (o := { dst := some 35, op := Go.Op.call { callee := Go.Callee.value (Go.Operand.func 25), args := #[Go.Operand.tmp 30, Go.Operand.tmp 34], argTypes := #[2, 2] }, type := 43, pos := "ref.go:21", after := #[{ on := 1, ground := Go.Ground.data }, { on := 5, ground := Go.Ground.data }], guard := none }) rfl (fun K hK => ?_) AllReadyH.nil
          go_simp
          refine (cA.out _).mono ?_; rintro e wn ⟨rfl, hbel⟩
          have HS2 := HS.trans (hbel.mono HS.size)
          clear HS hbel
          refine hK.out _ _ HS2 (fun HS => ?_)
          clear HS2 hK
          try simp only [Act.put, List.setIfInBounds_toArray, List.set_cons_zero, List.set_cons_succ]
          refine wpAnyH_take (S := (fun wx => Below wr.heap.size wr wx)) (i := 7) (oi := { dst := some 28, op := Go.Op.move (Go.Operand.tmp 35), type := 43, pos := "ref.go:21", after := #[{ on := 6, ground := Go.Ground.data }], guard := none }) (v := ?vd7) rfl (by kernel_rfl) (by kernel_rfl) (by kernel_rfl) (fun _ _ _ h => h) (Or.inl ⟨by rfl, ?yd7⟩) HS ?rd7
          case yd7 => (intro wx hSw; skip; go_simp; first | done | with_reducible rfl | (intro hh; omega) | skip)
          try simp only [Act.put, List.setIfInBounds_toArray, List.set_cons_zero, List.set_cons_succ]
          refine wpAnyH_take (S := (fun wx => Below wr.heap.size wr wx)) (i := 8) (oi := { dst := some 36, op := Go.Op.extract (Go.Operand.tmp 28) 0, type := 2, pos := "ref.go:21", after := #[{ on := 7, ground := Go.Ground.data }], guard := none }) (v := ?vd8) rfl (by kernel_rfl) (by kernel_rfl) (by kernel_rfl) (fun _ _ _ h => h) (Or.inl ⟨by rfl, ?yd8⟩) HS ?rd8
          case yd8 => (intro wx hSw; skip; go_simp; first | done | with_reducible rfl | (intro hh; omega) | skip)
          try simp only [Act.put, List.setIfInBounds_toArray, List.set_cons_zero, List.set_cons_succ]
          refine wpAnyH_take (S := (fun wx => Below wr.heap.size wr wx)) (i := 9) (oi := { dst := some 37, op := Go.Op.extract (Go.Operand.tmp 28) 1, type := 3, pos := "ref.go:21", after := #[{ on := 7, ground := Go.Ground.data }, { on := 10, ground := Go.Ground.gcOnly Go.Departure.lateStores }], guard := none }) (v := ?vd9) rfl (by kernel_rfl) (by kernel_rfl) (by kernel_rfl) (fun _ _ _ h => h) (Or.inl ⟨by rfl, ?yd9⟩) HS ?rd9
          case yd9 => (intro wx hSw; skip; go_simp; first | done | with_reducible rfl | (intro hh; omega) | skip)
          try simp only [Act.put, List.setIfInBounds_toArray, List.set_cons_zero, List.set_cons_succ]
          refine wpAnyH_take (S := (fun wx => Below wr.heap.size wr wx)) (i := 10) (oi := { dst := some 9, op := Go.Op.assign (Go.Operand.tmp 36), type := 2, pos := "ref.go:21", after := #[{ on := 8, ground := Go.Ground.data }, { on := 6, ground := Go.Ground.chain }, { on := 0, ground := Go.Ground.phase }, { on := 1, ground := Go.Ground.phase }, { on := 2, ground := Go.Ground.phase }, { on := 3, ground := Go.Ground.phase }, { on := 4, ground := Go.Ground.phase }, { on := 5, ground := Go.Ground.phase }, { on := 6, ground := Go.Ground.phase }, { on := 7, ground := Go.Ground.phase }, { on := 8, ground := Go.Ground.phase }, { on := 9, ground := Go.Ground.textOnly Go.Departure.lateStores }], guard := none }) (v := ?vd10) rfl (by kernel_rfl) (by kernel_rfl) (by kernel_rfl) (fun _ _ _ h => h) (Or.inl ⟨by rfl, ?yd10⟩) HS ?rd10
          case yd10 => (intro wx hSw; skip; go_simp; first | done | with_reducible rfl | (intro hh; omega) | skip)
          try simp only [Act.put, List.setIfInBounds_toArray, List.set_cons_zero, List.set_cons_succ]
          refine wpAnyH_take (S := (fun wx => Below wr.heap.size wr wx)) (i := 11) (oi := { dst := some 10, op := Go.Op.assign (Go.Operand.tmp 37), type := 3, pos := "ref.go:21", after := #[{ on := 9, ground := Go.Ground.data }, { on := 10, ground := Go.Ground.chain }, { on := 0, ground := Go.Ground.phase }, { on := 1, ground := Go.Ground.phase }, { on := 2, ground := Go.Ground.phase }, { on := 3, ground := Go.Ground.phase }, { on := 4, ground := Go.Ground.phase }, { on := 5, ground := Go.Ground.phase }, { on := 6, ground := Go.Ground.phase }, { on := 7, ground := Go.Ground.phase }, { on := 8, ground := Go.Ground.phase }, { on := 9, ground := Go.Ground.phase }, { on := 10, ground := Go.Ground.phase }], guard := none }) (v := ?vd11) rfl (by kernel_rfl) (by kernel_rfl) (by kernel_rfl) (fun _ _ _ h => h) (Or.inl ⟨by rfl, ?yd11⟩) HS ?rd11
          case yd11 => (intro wx hSw; skip; go_simp; first | done | with_reducible rfl | (intro hh; omega) | skip)
          try simp only [Act.put, List.setIfInBounds_toArray, List.set_cons_zero, List.set_cons_succ]
          refine wpAnyH_done (by kernel_rfl) ?_ _
          refine NoPanic.normal ?_
          go_wp2
          go_meet
          case rel => exact ⟨rfl, rfl, HS⟩
        case rest =>
        obtain ⟨rfl, rfl, hb7⟩ := hcut
        have B7 := Lib.hid (hp_on B6.out hb7)
        have HZ7 := Lib.hid (hp_on HZ.out hb7)
        have HW7 := Lib.hid (below_on hb hb.size hb7)
        obtain ⟨⟨q0, q1, q2, q3, q4, q5⟩, g0, g1, g2, g3, g4, g5⟩ := row6 B7.out
        obtain ⟨⟨r0, r1, r2, r3, r4, r5⟩, f0, f1, f2, f3, f4, f5⟩ := row6 HZ7.out
        clear hb7 B6 HZ hb cA xp xs
        have EJ : Hid (join q (tkd ⟨pr, sz⟩) = if Am.rg (q.s + sz) then (⟨q.f, max q.h pr, min q.l pr, pr, q.s + sz, q.n + 1⟩, 0) else (z0, 24)) := by
          rw [Hid]; unfold join
          rw [if_neg (by omega), if_neg (by show ¬ ((1 : Int) = 0); omega)]
          show (if Am.rg (q.s + sz) then ((⟨q.f, max q.h pr, min q.l pr, pr, q.s + sz, wrap64 (q.n + 1)⟩ : Cd), (0 : Int)) else (z0, 24)) = _
          by_cases hr : Am.rg (q.s + sz)
          · rw [if_pos hr, if_pos hr]
            rw [Am.wrap_rg (by unfold Am.rg; omega)]
          · rw [if_neg hr, if_neg hr]
        by_cases hr : Am.rg (q.s + sz)
        · rw [if_pos hr] at EJ
          obtain ⟨e1, e2⟩ := HZM.out
          rw [Am.okv_in hr] at e1
          rw [Am.erv_in hr] at e2
          subst e2
          have HE1 := Lib.hid e1
          clear e1 hr
          by_cases hh : pr > q.h
          · by_cases hlo : pr < q.l
            · go_wp2
              go_roundw
              case rel =>
                have e1 : (join (joins z0 lt).1 (tkd ⟨pr, sz⟩)) = (⟨q.f, max q.h pr, min q.l pr, pr, z1, q.n + 1⟩, 0) := by rw [HQ.out, HE1.out]; exact EJ.out
                have e2 : joins z0 (lt ++ [tkd ⟨pr, sz⟩]) = (⟨q.f, max q.h pr, min q.l pr, pr, z1, q.n + 1⟩, 0) := by rw [joins_snoc0 lt z0 _ h0 (by rw [e1]), e1]
                refine ⟨k + 1, by omega, by go_num, by rw [HT.out, e2], ?_, ?_, ?_⟩
                · exact set_other (set_other (set_other (set_other (set_other HZ7.out (by omega) _) (by omega) _) (by omega) _) (by omega) _) (by omega) _
                · rw [HT.out, e2, show max q.h pr = pr by omega, show min q.l pr = pr by omega]
                  exact heap_set (i := 2) (heap_set (i := 1) (heap_set (i := 3) (heap_set (i := 5) (heap_set (i := 4) B7.out (.int .i64 z1)) (.int .i64 (q.n + 1))) (.int .i64 pr)) (.int .i64 pr)) (.int .i64 pr)
                · exact ((((HW7.out.setCell (by simp) _).setCell (by simp) _).setCell (by simp) _).setCell (by simp) _).setCell (by simp) _
              case measure => simp [intOf]; omega
            · go_wp2
              go_roundw
              case rel =>
                have e1 : (join (joins z0 lt).1 (tkd ⟨pr, sz⟩)) = (⟨q.f, max q.h pr, min q.l pr, pr, z1, q.n + 1⟩, 0) := by rw [HQ.out, HE1.out]; exact EJ.out
                have e2 : joins z0 (lt ++ [tkd ⟨pr, sz⟩]) = (⟨q.f, max q.h pr, min q.l pr, pr, z1, q.n + 1⟩, 0) := by rw [joins_snoc0 lt z0 _ h0 (by rw [e1]), e1]
                refine ⟨k + 1, by omega, by go_num, by rw [HT.out, e2], ?_, ?_, ?_⟩
                · exact set_other (set_other (set_other (set_other HZ7.out (by omega) _) (by omega) _) (by omega) _) (by omega) _
                · rw [HT.out, e2, show max q.h pr = pr by omega, show min q.l pr = q.l by omega]
                  exact heap_set (i := 1) (heap_set (i := 3) (heap_set (i := 5) (heap_set (i := 4) B7.out (.int .i64 z1)) (.int .i64 (q.n + 1))) (.int .i64 pr)) (.int .i64 pr)
                · exact (((HW7.out.setCell (by simp) _).setCell (by simp) _).setCell (by simp) _).setCell (by simp) _
              case measure => simp [intOf]; omega
          · by_cases hlo : pr < q.l
            · go_wp2
              go_roundw
              case rel =>
                have e1 : (join (joins z0 lt).1 (tkd ⟨pr, sz⟩)) = (⟨q.f, max q.h pr, min q.l pr, pr, z1, q.n + 1⟩, 0) := by rw [HQ.out, HE1.out]; exact EJ.out
                have e2 : joins z0 (lt ++ [tkd ⟨pr, sz⟩]) = (⟨q.f, max q.h pr, min q.l pr, pr, z1, q.n + 1⟩, 0) := by rw [joins_snoc0 lt z0 _ h0 (by rw [e1]), e1]
                refine ⟨k + 1, by omega, by go_num, by rw [HT.out, e2], ?_, ?_, ?_⟩
                · exact set_other (set_other (set_other (set_other HZ7.out (by omega) _) (by omega) _) (by omega) _) (by omega) _
                · rw [HT.out, e2, show max q.h pr = q.h by omega, show min q.l pr = pr by omega]
                  exact heap_set (i := 2) (heap_set (i := 3) (heap_set (i := 5) (heap_set (i := 4) B7.out (.int .i64 z1)) (.int .i64 (q.n + 1))) (.int .i64 pr)) (.int .i64 pr)
                · exact (((HW7.out.setCell (by simp) _).setCell (by simp) _).setCell (by simp) _).setCell (by simp) _
              case measure => simp [intOf]; omega
            · go_wp2
              go_roundw
              case rel =>
                have e1 : (join (joins z0 lt).1 (tkd ⟨pr, sz⟩)) = (⟨q.f, max q.h pr, min q.l pr, pr, z1, q.n + 1⟩, 0) := by rw [HQ.out, HE1.out]; exact EJ.out
                have e2 : joins z0 (lt ++ [tkd ⟨pr, sz⟩]) = (⟨q.f, max q.h pr, min q.l pr, pr, z1, q.n + 1⟩, 0) := by rw [joins_snoc0 lt z0 _ h0 (by rw [e1]), e1]
                refine ⟨k + 1, by omega, by go_num, by rw [HT.out, e2], ?_, ?_, ?_⟩
                · exact set_other (set_other (set_other HZ7.out (by omega) _) (by omega) _) (by omega) _
                · rw [HT.out, e2, show max q.h pr = q.h by omega, show min q.l pr = q.l by omega]
                  exact heap_set (i := 3) (heap_set (i := 5) (heap_set (i := 4) B7.out (.int .i64 z1)) (.int .i64 (q.n + 1))) (.int .i64 pr)
                · exact ((HW7.out.setCell (by simp) _).setCell (by simp) _).setCell (by simp) _
              case measure => simp [intOf]; omega
        · rw [if_neg hr] at EJ
          obtain ⟨e1, e2⟩ := HZM.out
          rw [Am.erv_out hr] at e2
          subst e2
          clear e1 hr
          go_wp2
          have e1 : (join (joins z0 lt).1 (tkd ⟨pr, sz⟩)) = (z0, 24) := by rw [HQ.out]; exact EJ.out
          have e2 : joins z0 (lt ++ [tkd ⟨pr, sz⟩]) = (z0, 24) := by rw [joins_snoc1 lt z0 _ h0 (by rw [e1]; decide), e1]
          have e3 : joins z0 (l.map tkd) = (z0, 24) := by
            rw [HD.out, HT.out, joins_stop _ _ _ (by rw [e2]; decide), e2]
          refine bodyPost_ret (v := .tuple #[cv z0, .int .i64 24]) ?_ rfl (jsQ_mk e3 ?_)
          · simp [cv, z0, results, Try.results18, go_sem, r0, r1, r2, r3, r4, r5, f0, f1, f2, f3, f4, f5]
          · exact (((((HW7.out.setCell (by simp) _).setCell (by simp) _).setCell (by simp) _).setCell (by simp) _).setCell (by simp) _).setCell (by simp) _
    · obtain rfl : k = l.length := by omega
      rw [List.take_length] at h0 hb6
      obtain ⟨q, hq⟩ : ∃ q, q = (joins z0 (l.map tkd)).1 := ⟨_, rfl⟩
      rw [← hq] at hb6
      have HQ : Hid (joins z0 (l.map tkd) = (q, 0)) := by
        rw [Hid, hq, ← h0]
      have HW7 := Lib.hid hb
      obtain ⟨⟨q0, q1, q2, q3, q4, q5⟩, -⟩ := row6 hb6
      obtain ⟨⟨r0, r1, r2, r3, r4, r5⟩, f0, f1, f2, f3, f4, f5⟩ := row6 hz
      clear hb hz hb6 h0 hq
      go_wp2
      refine bodyPost_ret (v := .tuple #[cv q, .int .i64 0]) ?_ rfl (jsQ_mk HQ.out ?_)
      · simp [cv, results, Try.results18, go_sem, r0, r1, r2, r3, r4, r5, f0, f1, f2, f3, f4, f5]
      · exact (((((HW7.out.setCell (by simp) _).setCell (by simp) _).setCell (by simp) _).setCell (by simp) _).setCell (by simp) _).setCell (by simp) _
end Go.Proofs.Ytfgahmkfhlbogaa.Ca
