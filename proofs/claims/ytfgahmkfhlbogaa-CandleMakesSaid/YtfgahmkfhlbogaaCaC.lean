/-
  A span of ticks put together (joined): walked. Conditions: the numbers are of 64 bits.
-/
import Derived.Test.YtfgahmkfhlbogaaCaS
namespace Go.Proofs.Ytfgahmkfhlbogaa.Ca
open Go.RowKit
open Go.Proofs.Ytfgahmkfhlbogaa Go.Proofs.Ytfgahmkfhlbogaa.Hx

def RelC (w : World) (l : List Tk) (i : Value) (wr : World) : Prop :=
  ∃ k : Nat, k ≤ l.length ∧ i = .int .i64 k ∧ (joins z0 ((l.take k).map tkd)).2 = 0 ∧ wr.heap[w.heap.size]? = some (.cells (ccs z0) 42 (0, 0)) ∧
    wr.heap[w.heap.size + 1]? = some (.cells (ccs (joins z0 ((l.take k).map tkd)).1) 42 (0, 0)) ∧ Below w.heap.size w wr
def JsQ (r : Cd × Int) (w : World) (e : Ending) (w' : World) : Prop := e = .returned (.tuple #[cv r.1, .int .i64 r.2]) ∧ Below w.heap.size w w'
theorem jsQ_mk {r : Cd × Int} {c : Cd} {n : Int} {w w' : World} (h : r = (c, n)) (hb : Below w.heap.size w w') : JsQ r w (.returned (.tuple #[cv c, .int .i64 n])) w' := ⟨by rw [h], hb⟩
set_option maxHeartbeats 4000000 in
set_option maxRecDepth 100000 in
theorem joinedT_any (A : Option Addr) (c : Nat) (l : List Tk) (hl : l.length ≤ 1000) (hok : ∀ x ∈ l, (tkd x).ok) (w : World) (R : KRow w A l) :
    Calls Try.prog 23 #[.slice A l.length c, .func (.func 15) #[] #[]] w (JsQ (joins z0 (l.map tkd)) w) := by
  have HR := Lib.hid R
  have HOK := Lib.hid hok
  have hlc : (l.length : Int) ≤ 1000 := by omega
  have S1 := Lib.hid (hp_first w (.cells (ccs z0) 42 (0, 0)) (.cells (ccs z0) 42 (0, 0)))
  have S2 := Lib.hid (hp_second w (.cells (ccs z0) 42 (0, 0)) (.cells (ccs z0) 42 (0, 0)))
  have S3 : Hid (Below w.heap.size w ((w.alloc (.cells (ccs z0) 42)).alloc (.cells (ccs z0) 42))) := Lib.hid (((Below.refl _ w).alloc (Nat.le_refl _) _).alloc (by simp) _)
  clear R hok
  go_enter Try.func23, Try.ntmps23
  go_wp2
  go_loopw [13] (fun i wr => RelC w l i wr) (fun i _ => l.length - (intOf i).toNat)
  case atStart => exact ⟨0, by omega, rfl, rfl, S1.out, S2.out, S3.out⟩
  case round =>
    clear S1 S2 S3
    obtain ⟨k, hk, rfl, h0, hz, hb6, hb⟩ := hrel
    have HZ := Lib.hid hz
    have hsz : w.heap.size + 1 < wr.heap.size := hp_lt hb6
    by_cases h1 : k < l.length
    · obtain ⟨a, rfl, hab, hcl⟩ := HR.out (by omega)
      have x := hcl k h1
      have ok := HOK.out l[k] (List.getElem_mem h1)
      have hbl : (a.add (k * 2)).block < w.heap.size := by rw [block_add]; exact hab
      have HT : Hid ((l.take (k + 1)).map tkd = (l.take k).map tkd ++ [tkd l[k]]) := by rw [Hid, List.take_succ_eq_append_getElem h1, List.map_append]; rfl
      have HD : Hid (l.map tkd = (l.take (k + 1)).map tkd ++ (l.drop (k + 1)).map tkd) := by rw [Hid, ← List.map_append, List.take_append_drop]
      have hj := joins_ok ((l.take k).map tkd) z0 z0_ok (fun d hd => by obtain ⟨e, he, rfl⟩ := List.mem_map.1 hd; exact HOK.out e (List.mem_of_mem_take he))
      clear hcl
      generalize l[k] = y at *
      generalize (l.take k).map tkd = lt at *
      generalize hq : (joins z0 lt).1 = q at *
      have HQ := Lib.hid hq
      clear hq
      obtain ⟨c0, c1⟩ := x
      have x0 := (hb.cell (p := a.add (k * 2)) hbl).trans c0
      have x1 : wr.cell? ⟨(a.add (k * 2)).block, (a.add (k * 2)).off + 1, none⟩ = some (.int .i64 y.s) := (hb.cell (p := (a.add (k * 2)).add 1) (by rw [block_add]; exact hbl)).trans c1
      have cF := Lib.hid (fun W => of1_any y W)
      have cJ := Lib.hid (fun W => join_any q (tkd y) hj ok W)
      have B6 := Lib.hid hb6
      clear c0 c1 hb6 hz hj ok
      unfold cv at cF
      simp only [tkd] at cJ HT
      generalize hyc : one y = yc at *
      have HY := Lib.hid hyc
      clear hyc
      generalize hr : join q yc = rn at *
      obtain ⟨r, m⟩ := rn
      have HR2 := Lib.hid hr
      clear hr
      unfold JoQ at cJ
      rw [HR2.out] at cJ
      unfold cv at cJ
      simp only at cJ
      go_upto_region 5 with fail
      obtain ⟨w5, hw5⟩ : ∃ W, W = wr.alloc (.cells #[.int .i64 y.p, .int .i64 y.s] 32) := ⟨_, rfl⟩
      have B8 : Hid (w5.heap[wr.heap.size]? = some (.cells #[.int .i64 y.p, .int .i64 y.s] 32 (0, 0))) := by rw [Hid, hw5]; exact heap_alloc_last wr _
      have b65 : Below wr.heap.size wr w5 := by rw [hw5]; exact (Below.refl _ wr).alloc (Nat.le_refl _) _
      replace B6 := Lib.hid (hp_on B6.out b65)
      replace HZ := Lib.hid (hp_on HZ.out b65)
      have HW := Lib.hid (below_on hb hb.size b65)
      have hsz5 : w.heap.size + 1 < w5.heap.size := by have := b65.size; omega
      rw [← hw5]
      clear hw5 b65 hb x0 x1
      go_cut [9, 10] (fun s9 s10 wx => ∃ b9, s9 = .pointer (some ⟨b9, 0, none⟩) ∧ s10 = .int .i64 m ∧ wx.heap[b9]? = some (.cells (ccs r) 42 (0, 0)) ∧ w5.heap.size ≤ b9 ∧ Below w5.heap.size w5 wx)
      case first =>
        refine wp_region_noPanic ?_
        refine wp_region_held_drew (S := (fun wx => Below w5.heap.size w5 wx)) (by kernel_rfl) (⟨rfl, rfl, rfl, Nat.le_refl _, fun _ _ => rfl⟩) (fun HS => ?_)
        refine wpAnyH_take (S := (fun wx => Below w5.heap.size w5 wx)) (i := 0) (oi := { dst := some 18, op := Go.Op.load 42 (Go.Operand.tmp 6), type := 42, pos := "spans.go:39", after := #[], guard := none }) (v := ?vd1) rfl (by kernel_rfl) (by kernel_rfl) (by kernel_rfl) (fun _ _ _ h => h) (Or.inl ⟨by rfl, ?yd1⟩) HS ?rd1
        case yd1 => (intro wx hSw; obtain ⟨⟨p0, p1, p2, p3, p4, p5⟩, -⟩ := row6 (hp_on B6.out hSw); go_simp; first | done | with_reducible rfl | (intro hh; omega) | skip)
        try simp only [Act.put, List.setIfInBounds_toArray, List.set_cons_zero, List.set_cons_succ]
        refine wpAnyH_take (S := (fun wx => Below w5.heap.size w5 wx)) (i := 1) (oi := { dst := some 19, op := Go.Op.move (Go.Operand.tmp 1), type := 54, pos := "spans.go:39", after := #[], guard := none }) (v := ?vd2) rfl (by kernel_rfl) (by kernel_rfl) (by kernel_rfl) (fun _ _ _ h => h) (Or.inl ⟨by rfl, ?yd2⟩) HS ?rd2
        case yd2 => (intro wx hSw; skip; go_simp; first | done | with_reducible rfl | (intro hh; omega) | skip)
        try simp only [Act.put, List.setIfInBounds_toArray, List.set_cons_zero, List.set_cons_succ]
        refine wpAnyH_take (S := (fun wx => Below w5.heap.size w5 wx)) (i := 2) (oi := { dst := some 20, op := Go.Op.load 32 (Go.Operand.tmp 8), type := 32, pos := "spans.go:39", after := #[], guard := none }) (v := ?vd3) rfl (by kernel_rfl) (by kernel_rfl) (by kernel_rfl) (fun _ _ _ h => h) (Or.inl ⟨by rfl, ?yd3⟩) HS ?rd3
        case yd3 => (intro wx hSw; obtain ⟨⟨x0, x1⟩, -⟩ := cell2 (hp_on B8.out hSw); go_simp; first | done | with_reducible rfl | (intro hh; omega) | skip)
        try simp only [Act.put, List.setIfInBounds_toArray, List.set_cons_zero, List.set_cons_succ]
        refine wpAnyH_ready (rs := [3, 8]) (by kernel_rfl) (by simp) ?_
        refine AllReadyH.cons (o := { dst := some 21, op := Go.Op.call { callee := Go.Callee.value (Go.Operand.tmp 19), args := #[Go.Operand.tmp 20], argTypes := #[32] }, type := 42, pos := "spans.go:39", after := #[{ on := 1, ground := Go.Ground.data }, { on := 2, ground := Go.Ground.data }], guard := none }) rfl (fun K hK => ?_) ?_
        · skip
          go_simp
          refine (cF.out _).mono ?_; rintro e wn ⟨rfl, hbel⟩
          have HS2 := HS.trans (hbel.mono HS.size)
          clear HS hbel
          refine hK.out _ _ HS2 (fun HS => ?_)
          clear HS2 hK
          try simp only [Act.put, List.setIfInBounds_toArray, List.set_cons_zero, List.set_cons_succ]
          refine wpAnyH_ready (rs := [4, 8]) (by kernel_rfl) (by simp) ?_
          refine AllReadyH.cons (o := { dst := some 22, op := Go.Op.call { callee := Go.Callee.value (Go.Operand.func 29), args := #[Go.Operand.tmp 18, Go.Operand.tmp 21], argTypes := #[42, 42] }, type := 65, pos := "spans.go:39", after := #[{ on := 0, ground := Go.Ground.data }, { on := 3, ground := Go.Ground.data }, { on := 3, ground := Go.Ground.chain }], guard := none }) rfl (fun K hK => ?_) ?_
          · skip
            go_simp
            refine (cJ.out _).mono ?_; rintro e wn ⟨rfl, hbel⟩
            have HS2 := HS.trans (hbel.mono HS.size)
            clear HS hbel
            refine hK.out _ _ HS2 (fun HS => ?_)
            clear HS2 hK
            try simp only [Act.put, List.setIfInBounds_toArray, List.set_cons_zero, List.set_cons_succ]
            refine wpAnyH_take (S := (fun wx => Below w5.heap.size w5 wx)) (i := 5) (oi := { dst := some 17, op := Go.Op.move (Go.Operand.tmp 22), type := 65, pos := "spans.go:39", after := #[{ on := 4, ground := Go.Ground.data }], guard := none }) (v := ?vd4) rfl (by kernel_rfl) (by kernel_rfl) (by kernel_rfl) (fun _ _ _ h => h) (Or.inl ⟨by rfl, ?yd4⟩) HS ?rd4
            case yd4 => (intro wx hSw; skip; go_simp; first | done | with_reducible rfl | (intro hh; omega) | skip)
            try simp only [Act.put, List.setIfInBounds_toArray, List.set_cons_zero, List.set_cons_succ]
            refine wpAnyH_take (S := (fun wx => Below w5.heap.size w5 wx)) (i := 6) (oi := { dst := some 23, op := Go.Op.extract (Go.Operand.tmp 17) 0, type := 42, pos := "spans.go:39", after := #[{ on := 5, ground := Go.Ground.data }], guard := none }) (v := ?vd5) rfl (by kernel_rfl) (by kernel_rfl) (by kernel_rfl) (fun _ _ _ h => h) (Or.inl ⟨by rfl, ?yd5⟩) HS ?rd5
            case yd5 => (intro wx hSw; skip; go_simp; first | done | with_reducible rfl | (intro hh; omega) | skip)
            try simp only [Act.put, List.setIfInBounds_toArray, List.set_cons_zero, List.set_cons_succ]
            refine wpAnyH_take (S := (fun wx => Below w5.heap.size w5 wx)) (i := 7) (oi := { dst := some 24, op := Go.Op.extract (Go.Operand.tmp 17) 1, type := 28, pos := "spans.go:39", after := #[{ on := 5, ground := Go.Ground.data }, { on := 9, ground := Go.Ground.gcOnly Go.Departure.lateStores }], guard := none }) (v := ?vd6) rfl (by kernel_rfl) (by kernel_rfl) (by kernel_rfl) (fun _ _ _ h => h) (Or.inl ⟨by rfl, ?yd6⟩) HS ?rd6
            case yd6 => (intro wx hSw; skip; go_simp; first | done | with_reducible rfl | (intro hh; omega) | skip)
            try simp only [Act.put, List.setIfInBounds_toArray, List.set_cons_zero, List.set_cons_succ]
            refine wpAnyH_ready (rs := [8]) (by kernel_rfl) (by simp) ?_
            refine AllReadyH.cons (o := { dst := some 9, op := Go.Op.alloc 42, type := 0, pos := "spans.go:39", after := #[], guard := none }) rfl (fun K hK => ?_) AllReadyH.nil
            refine st_allocC rfl rfl (fun b9 wn hge hrow hbel => ?_)
            have P9 := Lib.hid (And.intro hrow (Nat.le_trans HS.size hge))
            clear hrow hge
            have HS2 := HS.trans (hbel.mono HS.size)
            clear HS hbel
            refine hK.out _ _ HS2 (fun HS => ?_)
            clear HS2 hK
            try simp only [Act.put, List.setIfInBounds_toArray, List.set_cons_zero, List.set_cons_succ]
            refine wpAnyH_ready (rs := [9]) (by kernel_rfl) (by simp) ?_
            refine AllReadyH.cons (o := { dst := none, op := Go.Op.store 42 (Go.Operand.tmp 9) (Go.Operand.tmp 23), type := 0, pos := "spans.go:39", after := #[{ on := 8, ground := Go.Ground.data }, { on := 6, ground := Go.Ground.data }, { on := 4, ground := Go.Ground.chain }, { on := 0, ground := Go.Ground.phase }, { on := 1, ground := Go.Ground.phase }, { on := 2, ground := Go.Ground.phase }, { on := 3, ground := Go.Ground.phase }, { on := 4, ground := Go.Ground.phase }, { on := 5, ground := Go.Ground.phase }, { on := 6, ground := Go.Ground.phase }, { on := 7, ground := Go.Ground.textOnly Go.Departure.lateStores }, { on := 8, ground := Go.Ground.phase }], guard := none }) rfl (fun K hK => ?_) AllReadyH.nil
            refine st_storeC (p := 9) (q := 23) (b := b9) (u := z0) (c := r) rfl rfl rfl rfl P9.out.1 rfl (fun wn hrow hgr => ?_)
            have HS1 := below_grown1 HS hgr P9.out.2
            replace P9 := Lib.hid (And.intro hrow P9.out.2)
            clear hrow hgr
            have HS2 := HS1
            clear HS
            refine hK.out _ _ HS2 (fun HS => ?_)
            clear HS2 hK
            try simp only [Act.put, List.setIfInBounds_toArray, List.set_cons_zero, List.set_cons_succ]
            refine wpAnyH_take (S := (fun wx => Below w5.heap.size w5 wx)) (i := 10) (oi := { dst := some 10, op := Go.Op.assign (Go.Operand.tmp 24), type := 28, pos := "spans.go:39", after := #[{ on := 7, ground := Go.Ground.data }, { on := 9, ground := Go.Ground.chain }, { on := 0, ground := Go.Ground.phase }, { on := 1, ground := Go.Ground.phase }, { on := 2, ground := Go.Ground.phase }, { on := 3, ground := Go.Ground.phase }, { on := 4, ground := Go.Ground.phase }, { on := 5, ground := Go.Ground.phase }, { on := 6, ground := Go.Ground.phase }, { on := 7, ground := Go.Ground.phase }, { on := 8, ground := Go.Ground.phase }, { on := 9, ground := Go.Ground.phase }], guard := none }) (v := ?vd7) rfl (by kernel_rfl) (by kernel_rfl) (by kernel_rfl) (fun _ _ _ h => h) (Or.inl ⟨by rfl, ?yd7⟩) HS ?rd7
            case yd7 => (intro wx hSw; skip; go_simp; first | done | with_reducible rfl | (intro hh; omega) | skip)
            try simp only [Act.put, List.setIfInBounds_toArray, List.set_cons_zero, List.set_cons_succ]
            refine wpAnyH_done (by kernel_rfl) ?_ _
            refine NoPanic.normal ?_
            go_wp2
            go_meet
            case rel => exact ⟨b9, rfl, rfl, P9.out.1, P9.out.2, HS⟩
          refine AllReadyH.cons (o := { dst := some 9, op := Go.Op.alloc 42, type := 0, pos := "spans.go:39", after := #[], guard := none }) rfl (fun K hK => ?_) AllReadyH.nil
          refine st_allocC rfl rfl (fun b9 wn hge hrow hbel => ?_)
          have P9 := Lib.hid (And.intro hrow (Nat.le_trans HS.size hge))
          clear hrow hge
          have HS2 := HS.trans (hbel.mono HS.size)
          clear HS hbel
          refine hK.out _ _ HS2 (fun HS => ?_)
          clear HS2 hK
          try simp only [Act.put, List.setIfInBounds_toArray, List.set_cons_zero, List.set_cons_succ]
          refine wpAnyH_ready (rs := [4]) (by kernel_rfl) (by simp) ?_
          refine AllReadyH.cons (o := { dst := some 22, op := Go.Op.call { callee := Go.Callee.value (Go.Operand.func 29), args := #[Go.Operand.tmp 18, Go.Operand.tmp 21], argTypes := #[42, 42] }, type := 65, pos := "spans.go:39", after := #[{ on := 0, ground := Go.Ground.data }, { on := 3, ground := Go.Ground.data }, { on := 3, ground := Go.Ground.chain }], guard := none }) rfl (fun K hK => ?_) AllReadyH.nil
          go_simp
          refine (cJ.out _).mono ?_; rintro e wn ⟨rfl, hbel⟩
          replace P9 := Lib.hid (And.intro (hp_on P9.out.1 hbel) P9.out.2)
          have HS2 := HS.trans (hbel.mono HS.size)
          clear HS hbel
          refine hK.out _ _ HS2 (fun HS => ?_)
          clear HS2 hK
          try simp only [Act.put, List.setIfInBounds_toArray, List.set_cons_zero, List.set_cons_succ]
          refine wpAnyH_take (S := (fun wx => Below w5.heap.size w5 wx)) (i := 5) (oi := { dst := some 17, op := Go.Op.move (Go.Operand.tmp 22), type := 65, pos := "spans.go:39", after := #[{ on := 4, ground := Go.Ground.data }], guard := none }) (v := ?vd8) rfl (by kernel_rfl) (by kernel_rfl) (by kernel_rfl) (fun _ _ _ h => h) (Or.inl ⟨by rfl, ?yd8⟩) HS ?rd8
          case yd8 => (intro wx hSw; skip; go_simp; first | done | with_reducible rfl | (intro hh; omega) | skip)
          try simp only [Act.put, List.setIfInBounds_toArray, List.set_cons_zero, List.set_cons_succ]
          refine wpAnyH_take (S := (fun wx => Below w5.heap.size w5 wx)) (i := 6) (oi := { dst := some 23, op := Go.Op.extract (Go.Operand.tmp 17) 0, type := 42, pos := "spans.go:39", after := #[{ on := 5, ground := Go.Ground.data }], guard := none }) (v := ?vd9) rfl (by kernel_rfl) (by kernel_rfl) (by kernel_rfl) (fun _ _ _ h => h) (Or.inl ⟨by rfl, ?yd9⟩) HS ?rd9
          case yd9 => (intro wx hSw; skip; go_simp; first | done | with_reducible rfl | (intro hh; omega) | skip)
          try simp only [Act.put, List.setIfInBounds_toArray, List.set_cons_zero, List.set_cons_succ]
          refine wpAnyH_take (S := (fun wx => Below w5.heap.size w5 wx)) (i := 7) (oi := { dst := some 24, op := Go.Op.extract (Go.Operand.tmp 17) 1, type := 28, pos := "spans.go:39", after := #[{ on := 5, ground := Go.Ground.data }, { on := 9, ground := Go.Ground.gcOnly Go.Departure.lateStores }], guard := none }) (v := ?vd10) rfl (by kernel_rfl) (by kernel_rfl) (by kernel_rfl) (fun _ _ _ h => h) (Or.inl ⟨by rfl, ?yd10⟩) HS ?rd10
          case yd10 => (intro wx hSw; skip; go_simp; first | done | with_reducible rfl | (intro hh; omega) | skip)
          try simp only [Act.put, List.setIfInBounds_toArray, List.set_cons_zero, List.set_cons_succ]
          refine wpAnyH_ready (rs := [9]) (by kernel_rfl) (by simp) ?_
          refine AllReadyH.cons (o := { dst := none, op := Go.Op.store 42 (Go.Operand.tmp 9) (Go.Operand.tmp 23), type := 0, pos := "spans.go:39", after := #[{ on := 8, ground := Go.Ground.data }, { on := 6, ground := Go.Ground.data }, { on := 4, ground := Go.Ground.chain }, { on := 0, ground := Go.Ground.phase }, { on := 1, ground := Go.Ground.phase }, { on := 2, ground := Go.Ground.phase }, { on := 3, ground := Go.Ground.phase }, { on := 4, ground := Go.Ground.phase }, { on := 5, ground := Go.Ground.phase }, { on := 6, ground := Go.Ground.phase }, { on := 7, ground := Go.Ground.textOnly Go.Departure.lateStores }, { on := 8, ground := Go.Ground.phase }], guard := none }) rfl (fun K hK => ?_) AllReadyH.nil
          refine st_storeC (p := 9) (q := 23) (b := b9) (u := z0) (c := r) rfl rfl rfl rfl P9.out.1 rfl (fun wn hrow hgr => ?_)
          have HS1 := below_grown1 HS hgr P9.out.2
          replace P9 := Lib.hid (And.intro hrow P9.out.2)
          clear hrow hgr
          have HS2 := HS1
          clear HS
          refine hK.out _ _ HS2 (fun HS => ?_)
          clear HS2 hK
          try simp only [Act.put, List.setIfInBounds_toArray, List.set_cons_zero, List.set_cons_succ]
          refine wpAnyH_take (S := (fun wx => Below w5.heap.size w5 wx)) (i := 10) (oi := { dst := some 10, op := Go.Op.assign (Go.Operand.tmp 24), type := 28, pos := "spans.go:39", after := #[{ on := 7, ground := Go.Ground.data }, { on := 9, ground := Go.Ground.chain }, { on := 0, ground := Go.Ground.phase }, { on := 1, ground := Go.Ground.phase }, { on := 2, ground := Go.Ground.phase }, { on := 3, ground := Go.Ground.phase }, { on := 4, ground := Go.Ground.phase }, { on := 5, ground := Go.Ground.phase }, { on := 6, ground := Go.Ground.phase }, { on := 7, ground := Go.Ground.phase }, { on := 8, ground := Go.Ground.phase }, { on := 9, ground := Go.Ground.phase }], guard := none }) (v := ?vd11) rfl (by kernel_rfl) (by kernel_rfl) (by kernel_rfl) (fun _ _ _ h => h) (Or.inl ⟨by rfl, ?yd11⟩) HS ?rd11
          case yd11 => (intro wx hSw; skip; go_simp; first | done | with_reducible rfl | (intro hh; omega) | skip)
          try simp only [Act.put, List.setIfInBounds_toArray, List.set_cons_zero, List.set_cons_succ]
          refine wpAnyH_done (by kernel_rfl) ?_ _
          refine NoPanic.normal ?_
          go_wp2
          go_meet
          case rel => exact ⟨b9, rfl, rfl, P9.out.1, P9.out.2, HS⟩
        refine AllReadyH.cons (o := { dst := some 9, op := Go.Op.alloc 42, type := 0, pos := "spans.go:39", after := #[], guard := none }) rfl (fun K hK => ?_) AllReadyH.nil
        refine st_allocC rfl rfl (fun b9 wn hge hrow hbel => ?_)
        have P9 := Lib.hid (And.intro hrow (Nat.le_trans HS.size hge))
        clear hrow hge
        have HS2 := HS.trans (hbel.mono HS.size)
        clear HS hbel
        refine hK.out _ _ HS2 (fun HS => ?_)
        clear HS2 hK
        try simp only [Act.put, List.setIfInBounds_toArray, List.set_cons_zero, List.set_cons_succ]
        refine wpAnyH_ready (rs := [3]) (by kernel_rfl) (by simp) ?_
        refine AllReadyH.cons (o := { dst := some 21, op := Go.Op.call { callee := Go.Callee.value (Go.Operand.tmp 19), args := #[Go.Operand.tmp 20], argTypes := #[32] }, type := 42, pos := "spans.go:39", after := #[{ on := 1, ground := Go.Ground.data }, { on := 2, ground := Go.Ground.data }], guard := none }) rfl (fun K hK => ?_) AllReadyH.nil
        go_simp
        refine (cF.out _).mono ?_; rintro e wn ⟨rfl, hbel⟩
        replace P9 := Lib.hid (And.intro (hp_on P9.out.1 hbel) P9.out.2)
        have HS2 := HS.trans (hbel.mono HS.size)
        clear HS hbel
        refine hK.out _ _ HS2 (fun HS => ?_)
        clear HS2 hK
        try simp only [Act.put, List.setIfInBounds_toArray, List.set_cons_zero, List.set_cons_succ]
        refine wpAnyH_ready (rs := [4]) (by kernel_rfl) (by simp) ?_
        refine AllReadyH.cons (o := { dst := some 22, op := Go.Op.call { callee := Go.Callee.value (Go.Operand.func 29), args := #[Go.Operand.tmp 18, Go.Operand.tmp 21], argTypes := #[42, 42] }, type := 65, pos := "spans.go:39", after := #[{ on := 0, ground := Go.Ground.data }, { on := 3, ground := Go.Ground.data }, { on := 3, ground := Go.Ground.chain }], guard := none }) rfl (fun K hK => ?_) AllReadyH.nil
        go_simp
        refine (cJ.out _).mono ?_; rintro e wn ⟨rfl, hbel⟩
        replace P9 := Lib.hid (And.intro (hp_on P9.out.1 hbel) P9.out.2)
        have HS2 := HS.trans (hbel.mono HS.size)
        clear HS hbel
        refine hK.out _ _ HS2 (fun HS => ?_)
        clear HS2 hK
        try simp only [Act.put, List.setIfInBounds_toArray, List.set_cons_zero, List.set_cons_succ]
        refine wpAnyH_take (S := (fun wx => Below w5.heap.size w5 wx)) (i := 5) (oi := { dst := some 17, op := Go.Op.move (Go.Operand.tmp 22), type := 65, pos := "spans.go:39", after := #[{ on := 4, ground := Go.Ground.data }], guard := none }) (v := ?vd12) rfl (by kernel_rfl) (by kernel_rfl) (by kernel_rfl) (fun _ _ _ h => h) (Or.inl ⟨by rfl, ?yd12⟩) HS ?rd12
        case yd12 => (intro wx hSw; skip; go_simp; first | done | with_reducible rfl | (intro hh; omega) | skip)
        try simp only [Act.put, List.setIfInBounds_toArray, List.set_cons_zero, List.set_cons_succ]
        refine wpAnyH_take (S := (fun wx => Below w5.heap.size w5 wx)) (i := 6) (oi := { dst := some 23, op := Go.Op.extract (Go.Operand.tmp 17) 0, type := 42, pos := "spans.go:39", after := #[{ on := 5, ground := Go.Ground.data }], guard := none }) (v := ?vd13) rfl (by kernel_rfl) (by kernel_rfl) (by kernel_rfl) (fun _ _ _ h => h) (Or.inl ⟨by rfl, ?yd13⟩) HS ?rd13
        case yd13 => (intro wx hSw; skip; go_simp; first | done | with_reducible rfl | (intro hh; omega) | skip)
        try simp only [Act.put, List.setIfInBounds_toArray, List.set_cons_zero, List.set_cons_succ]
        refine wpAnyH_take (S := (fun wx => Below w5.heap.size w5 wx)) (i := 7) (oi := { dst := some 24, op := Go.Op.extract (Go.Operand.tmp 17) 1, type := 28, pos := "spans.go:39", after := #[{ on := 5, ground := Go.Ground.data }, { on := 9, ground := Go.Ground.gcOnly Go.Departure.lateStores }], guard := none }) (v := ?vd14) rfl (by kernel_rfl) (by kernel_rfl) (by kernel_rfl) (fun _ _ _ h => h) (Or.inl ⟨by rfl, ?yd14⟩) HS ?rd14
        case yd14 => (intro wx hSw; skip; go_simp; first | done | with_reducible rfl | (intro hh; omega) | skip)
        try simp only [Act.put, List.setIfInBounds_toArray, List.set_cons_zero, List.set_cons_succ]
        refine wpAnyH_ready (rs := [9]) (by kernel_rfl) (by simp) ?_
        refine AllReadyH.cons (o := { dst := none, op := Go.Op.store 42 (Go.Operand.tmp 9) (Go.Operand.tmp 23), type := 0, pos := "spans.go:39", after := #[{ on := 8, ground := Go.Ground.data }, { on := 6, ground := Go.Ground.data }, { on := 4, ground := Go.Ground.chain }, { on := 0, ground := Go.Ground.phase }, { on := 1, ground := Go.Ground.phase }, { on := 2, ground := Go.Ground.phase }, { on := 3, ground := Go.Ground.phase }, { on := 4, ground := Go.Ground.phase }, { on := 5, ground := Go.Ground.phase }, { on := 6, ground := Go.Ground.phase }, { on := 7, ground := Go.Ground.textOnly Go.Departure.lateStores }, { on := 8, ground := Go.Ground.phase }], guard := none }) rfl (fun K hK => ?_) AllReadyH.nil
        refine st_storeC (p := 9) (q := 23) (b := b9) (u := z0) (c := r) rfl rfl rfl rfl P9.out.1 rfl (fun wn hrow hgr => ?_)
        have HS1 := below_grown1 HS hgr P9.out.2
        replace P9 := Lib.hid (And.intro hrow P9.out.2)
        clear hrow hgr
        have HS2 := HS1
        clear HS
        refine hK.out _ _ HS2 (fun HS => ?_)
        clear HS2 hK
        try simp only [Act.put, List.setIfInBounds_toArray, List.set_cons_zero, List.set_cons_succ]
        refine wpAnyH_take (S := (fun wx => Below w5.heap.size w5 wx)) (i := 10) (oi := { dst := some 10, op := Go.Op.assign (Go.Operand.tmp 24), type := 28, pos := "spans.go:39", after := #[{ on := 7, ground := Go.Ground.data }, { on := 9, ground := Go.Ground.chain }, { on := 0, ground := Go.Ground.phase }, { on := 1, ground := Go.Ground.phase }, { on := 2, ground := Go.Ground.phase }, { on := 3, ground := Go.Ground.phase }, { on := 4, ground := Go.Ground.phase }, { on := 5, ground := Go.Ground.phase }, { on := 6, ground := Go.Ground.phase }, { on := 7, ground := Go.Ground.phase }, { on := 8, ground := Go.Ground.phase }, { on := 9, ground := Go.Ground.phase }], guard := none }) (v := ?vd15) rfl (by kernel_rfl) (by kernel_rfl) (by kernel_rfl) (fun _ _ _ h => h) (Or.inl ⟨by rfl, ?yd15⟩) HS ?rd15
        case yd15 => (intro wx hSw; skip; go_simp; first | done | with_reducible rfl | (intro hh; omega) | skip)
        try simp only [Act.put, List.setIfInBounds_toArray, List.set_cons_zero, List.set_cons_succ]
        refine wpAnyH_done (by kernel_rfl) ?_ _
        refine NoPanic.normal ?_
        go_wp2
        go_meet
        case rel => exact ⟨b9, rfl, rfl, P9.out.1, P9.out.2, HS⟩
      case rest =>
      obtain ⟨b9, rfl, rfl, h9, hge9, hb7⟩ := hcut
      have B7 := Lib.hid (hp_on B6.out hb7)
      have HZ7 := Lib.hid (hp_on HZ.out hb7)
      have HW7 := Lib.hid (below_on HW.out HW.out.size hb7)
      obtain ⟨⟨p0, p1, p2, p3, p4, p5⟩, -⟩ := row6 h9
      obtain ⟨⟨q0, q1, q2, q3, q4, q5⟩, g0, g1, g2, g3, g4, g5⟩ := row6 B7.out
      obtain ⟨⟨r0, r1, r2, r3, r4, r5⟩, f0, f1, f2, f3, f4, f5⟩ := row6 HZ7.out
      clear hb7 B6 HZ HW h9 cF cJ B8
      by_cases hm : m = 0
      · have tm : (m != 0) = false := by simpa using hm
        have HM := Lib.hid hm
        clear hm
        go_wp2
        go_roundw
        case rel =>
          have e1 : (join (joins z0 lt).1 yc) = (r, m) := by rw [HQ.out]; exact HR2.out
          have e2 : joins z0 (lt ++ [yc]) = (r, 0) := by rw [joins_snoc0 lt z0 _ h0 (by rw [e1]; exact HM.out), e1]
          refine ⟨k + 1, by omega, by go_num, by rw [HT.out, e2], ?_, ?_, ?_⟩
          · exact set_other (set_other (set_other (set_other (set_other (set_other HZ7.out (by omega) _) (by omega) _) (by omega) _) (by omega) _) (by omega) _) (by omega) _
          · rw [HT.out, e2]; exact set6_row (d := r) B7.out
          · exact (((((HW7.out.setCell (by simp) _).setCell (by simp) _).setCell (by simp) _).setCell (by simp) _).setCell (by simp) _).setCell (by simp) _
        case measure => simp [intOf]; omega
      · have tm : (m != 0) = true := by simpa using hm
        have HM := Lib.hid hm
        clear hm
        go_wp2
        have e1 : (join (joins z0 lt).1 yc) = (r, m) := by rw [HQ.out]; exact HR2.out
        have e2 : joins z0 (lt ++ [yc]) = (z0, m) := by rw [joins_snoc1 lt z0 _ h0 (by rw [e1]; exact HM.out), e1]
        have e3 : joins z0 (l.map tkd) = (z0, m) := by
          rw [HD.out, HT.out, joins_stop _ _ _ (by rw [e2]; exact HM.out), e2]
        refine bodyPost_ret (v := .tuple #[cv z0, .int .i64 m]) ?_ rfl (jsQ_mk e3 ?_)
        · simp [cv, z0, results, Try.results23, go_sem, r0, r1, r2, r3, r4, r5, f0, f1, f2, f3, f4, f5]
        · exact (((((HW7.out.setCell (by simp) _).setCell (by simp) _).setCell (by simp) _).setCell (by simp) _).setCell (by simp) _).setCell (by simp) _
    · obtain rfl : k = l.length := by omega
      rw [List.take_length] at h0 hb6
      obtain ⟨q, hq⟩ : ∃ q, q = (joins z0 (l.map tkd)).1 := ⟨_, rfl⟩
      rw [← hq] at hb6
      have HQ : Hid (joins z0 (l.map tkd) = (q, 0)) := by
        rw [Hid, hq, ← h0]
      have HW7 := Lib.hid hb
      obtain ⟨⟨q0, q1, q2, q3, q4, q5⟩, -⟩ := row6 hb6
      obtain ⟨⟨r0, r1, r2, r3, r4, r5⟩, f0, f1, f2, f3, f4, f5⟩ := row6 hz
      clear hb hz hb6 h0 hq HZ
      go_wp2
      refine bodyPost_ret (v := .tuple #[cv q, .int .i64 0]) ?_ rfl (jsQ_mk HQ.out ?_)
      · simp [cv, results, Try.results23, go_sem, r0, r1, r2, r3, r4, r5, f0, f1, f2, f3, f4, f5]
      · exact (((((HW7.out.setCell (by simp) _).setCell (by simp) _).setCell (by simp) _).setCell (by simp) _).setCell (by simp) _).setCell (by simp) _
end Go.Proofs.Ytfgahmkfhlbogaa.Ca
