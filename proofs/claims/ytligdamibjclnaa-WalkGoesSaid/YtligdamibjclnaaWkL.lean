/-
  The law WalkGoes, walked. Conditions: as each theorem states.
-/
import Derived.Test.YtligdamibjclnaaWkT
import Derived.Test.YtligdamibjclnaaWkJ
import Derived.Test.YtligdamibjclnaaRfQ
import Derived.Deep.RegionHeld3
namespace Go.Proofs.Ytligdamibjclnaa.Wk
open Go.RowKit Go.Shelf
open Go.Proofs.Ytligdamibjclnaa
open Go.Proofs.Ytligdamibjclnaa.Rf
open Se Fl
attribute [local go_sem] Oper.semAt_some run_store_float run_store_complex

theorem drewN_below (W : World) (n : Nat) : Below W.heap.size W (W.drewN n) := ⟨rfl, rfl, rfl, Nat.le_refl _, fun _ _ => rfl⟩
/-- what lies there when the walks are made -/
structure GL (w : World) (A : Option Addr) (c m : Nat) (l : List Trd) (W : World) : Prop where
  ra : TRow W A l
  lb : W.heap[w.heap.size]? = some (.cells #[.slice A l.length c] 22 (0, 0))
  mb : W.heap[w.heap.size + 1]? = some (.cells #[.int .u8 m] 5 (0, 0))
  rb : W.heap[w.heap.size + 2]? = some (.cells #[.bool false] 4 (0, 0))
  below : Below w.heap.size w W
section
variable {w W W2 : World} {A : Option Addr} {c m : Nat} {l : List Trd}
theorem GL.on (h : GL w A c m l W) (hb : Below W.heap.size W W2) : GL w A c m l W2 :=
  ⟨h.ra.below hb, hp_on' h.lb hb, hp_on' h.mb hb, hp_on' h.rb hb, h.below.trans (hb.mono h.below.size)⟩
theorem gl_start (ra : TRow w A l) : GL w A c m l (((w.alloc (.cells #[.slice A l.length c] 22)).alloc (.cells #[.int .u8 m] 5)).alloc (.cells #[.bool false] 4)) := by
  have b1 : Below w.heap.size w (w.alloc (.cells #[.slice A l.length c] 22)) := (Below.refl _ w).alloc (Nat.le_refl _) _
  have h1 := heap_alloc_last w (.cells #[.slice A l.length c] 22 (0, 0))
  generalize hw1 : w.alloc (.cells #[.slice A l.length c] 22) = w1 at *
  have s1 : w1.heap.size = w.heap.size + 1 := by rw [← hw1]; simp
  have h2 := heap_alloc_last w1 (.cells #[.int .u8 m] 5 (0, 0))
  have b2 : Below w1.heap.size w1 (w1.alloc (.cells #[.int .u8 m] 5)) := (Below.refl _ w1).alloc (Nat.le_refl _) _
  generalize hw2 : w1.alloc (.cells #[.int .u8 m] 5) = w2 at *
  have s2 : w2.heap.size = w.heap.size + 2 := by rw [← hw2]; simp; omega
  have h3 := heap_alloc_last w2 (.cells #[.bool false] 4 (0, 0))
  have b3 : Below w2.heap.size w2 (w2.alloc (.cells #[.bool false] 4)) := (Below.refl _ w2).alloc (Nat.le_refl _) _
  rw [s1] at h2
  rw [s2] at h3
  exact ⟨((ra.below b1).below b2).below b3, hp_on' (hp_on' h1 b2) b3, hp_on' h2 b3, h3, (b1.trans (b2.mono (by omega))).trans (b3.mono (by omega))⟩
end
/-- behind the two walks: where they lie -/
structure GW (l : List Trd) (q : Pw) (z : Pz) (tz : Int) (AX AY : Option Addr) (cx cy k5 k6 : Nat) (W : World) : Prop where
  b5 : W.heap[k5]? = some (.cells (pcs q) 26 (0, 0))
  b6 : W.heap[k6]? = some (.cells (rcs z.x z.y z.h tz (.slice AX l.length cx) (.slice AY l.length cy)) 30 (0, 0))
  rx : IRow W AX ((zwalk begZ true 0 l).map (·.x))
  ry : IRow W AY ((zwalk begZ true 0 l).map (·.y))
theorem GW.on {l : List Trd} {q : Pw} {z : Pz} {tz : Int} {AX AY : Option Addr} {cx cy k5 k6 : Nat} {W W2 : World} (h : GW l q z tz AX AY cx cy k5 k6 W) (hb : Below W.heap.size W W2) : GW l q z tz AX AY cx cy k5 k6 W2 :=
  ⟨hp_on' h.b5 hb, hp_on' h.b6 hb, h.rx.below hb, h.ry.below hb⟩
theorem irow_heap {W W2 : World} {A : Option Addr} {l : List Int} (R : IRow W A l) (hs : W.heap.size ≤ W2.heap.size) (h : ∀ a, A = some a → 0 < l.length → a.block < W.heap.size → W2.heap[a.block]? = W.heap[a.block]?) : IRow W2 A l := fun h0 => by
  obtain ⟨a, rfl, hlt, hc⟩ := R h0
  refine ⟨a, rfl, by omega, fun i hi => ?_⟩
  rw [← hc i hi]
  unfold World.cell?
  rw [block_add, h a rfl h0 hlt]
/-- the places are gone through -/
def GoI (w w7 : World) (k : Nat) (pre : List Pw) (X : World) : Prop :=
  X.heap[k]? = some (.cells #[.int .i64 (pre.length : Nat)] 3 (0, 0)) ∧ X.heap[w.heap.size + 2]? = some (.cells #[.bool false] 4 (0, 0)) ∧ (∀ j, j < w7.heap.size → j ≠ k → j ≠ w.heap.size + 2 → X.heap[j]? = w7.heap[j]?) ∧ Below w.heap.size w X ∧ w7.heap.size ≤ X.heap.size
def GoX (w w7 : World) (cd : Code) (X : World) : Prop :=
  cd = .ret ∧ X.heap[w.heap.size + 2]? = some (.cells #[.bool true] 4 (0, 0)) ∧ Below w.heap.size w X ∧ w7.heap.size ≤ X.heap.size
theorem goI_free {w w7 : World} {k : Nat} (hk : k < w7.heap.size) (hr : w.heap.size + 2 < w7.heap.size) : FreeFrom w7.heap.size (GoI w w7 k) := fun s A C row ⟨h1, h2, h3, h4, h5⟩ hg hrow =>
  ⟨free_block hg hrow hk h1, free_block hg hrow hr h2, fun j hj hk' hr' => (hg.block j (by omega) (fun e => by have := hrow j e.symm; omega)).trans (h3 j hj hk' hr'), free_below hg hrow (by omega) h4, Nat.le_trans h5 hg.size⟩
theorem goX_free {w w7 : World} (hr : w.heap.size + 2 < w7.heap.size) (cd : Code) : FreeFrom w7.heap.size (fun (_ : List Pw) X => GoX w w7 cd X) := fun s A C row ⟨h1, h2, h4, h5⟩ hg hrow =>
  ⟨h1, free_block hg hrow hr h2, free_below hg hrow (by omega) h4, Nat.le_trans h5 hg.size⟩
theorem pre_at {α : Type} {pre L : List α} {x : α} (h : pre ++ [x] <+: L) : ∃ h1 : pre.length < L.length, L[pre.length] = x := by
  have h2 := h.length_le
  simp at h2
  refine ⟨by omega, ?_⟩
  have h3 := h.getElem (show pre.length < (pre ++ [x]).length by simp)
  rw [← h3]; simp
theorem ret_goes {n : Nat} {w W : World} {tmps : Array Value} {D : Nat} {R : Ending → World → Prop} (ht : tmps[4]? = some (.pointer (some ⟨w.heap.size + 1 + 1, 0, none⟩))) (hK : W.heap[D]? = some (.deferred (some []))) (hc : W.cell? ⟨w.heap.size + 1 + 1, 0, none⟩ = some (.bool true)) (hR : R (.returned (.bool true)) (W.putObj D (.deferred none))) :
    bodyPostM Fence.wide n Try.prog Try.f3 R Exit.ret { tmps := tmps, defers := [{ target := .collected D, args := #[] }] } W := by
  refine ⟨by simp, .inl ⟨_, _, rfl, run_takeDeferred hK, ⟨.bool true, ?_, hR⟩⟩⟩
  have hres := Try.results3
  have hc5 := cell_kept hc (grownBy_putObj' _ D (.deferred none)) (fun r e => by cases e; exact ⟨_, hK, rfl⟩)
  simp [results, hres, go_sem, ht, hc5]
set_option maxHeartbeats 4000000 in
set_option maxRecDepth 100000 in
theorem goes_in (n : Nat) (hn : 5 ≤ n) (A : Option Addr) (c : Nat) (l : List Trd) (m : Nat) (hm : m < 256) (hl : l.length ≤ 100) (w : World) (RA : TRow w A l) (hA : A = none → l.length = 0 ∧ c = 0) (hok : ∀ p ∈ l, p.ok) :
    CallsIn Fence.wide n Try.prog 3 #[.slice A l.length c, .int .u8 m] w fun e w' => e = .returned (.bool true) ∧ Below w.heap.size w w' := by
  have h1 : 1 ≤ n := by omega
  have hlc : (l.length : Int) ≤ 100 := by omega
  have G0 := Lib.hid (gl_start (c := c) (m := m) RA)
  have HA := Lib.hid hA
  have AL := Lib.hid (al_of l (by omega))
  have cO := Lib.hid (fun W R => of_any A c l (by omega) W R)
  have cR := Lib.hid (fun W R => refOf_any A c l (by omega) hok W R)
  have cP := Lib.hid (fun W R => places_any A c l (by omega) W R hA)
  have cC := Lib.hid (fun W R => corners_any A c l (by omega) W R)
  have eO := ofW_end l
  unfold pv at cO
  rw [eO] at cO
  unfold ofR at cR
  clear eO RA hA hok
  have cB := Lib.hid (fun W => box_any AL.out.pf AL.out.bz (by omega) W)
  have cX := Lib.hid (fun W A' c' R => ends_any A' c' ((zwalk begZ true 0 l).map (·.x)) (by rw [AL.out.lx]; omega) AL.out.bx W R)
  have cY := Lib.hid (fun W A' c' R => ends_any A' c' ((zwalk begZ true 0 l).map (·.y)) (by rw [AL.out.ly]; omega) AL.out.by_ W R)
  rw [AL.out.lx, AL.out.ex] at cX
  rw [AL.out.ly, AL.out.ey] at cY
  rw [AL.out.turns] at cC
  generalize endW begW 0 l = q at *
  generalize endZ begZ true 0 l = z at *
  generalize turnsZ true 0 l = tz at *
  refine callsIn_of_wp_marks Try.func3 rfl trivial ?_ rfl
  simp only [Try.ntmps3, List.size_toArray, List.length_cons, List.length_nil, Nat.reduceAdd, Nat.reduceSub, Array.replicate_succ, Array.replicate_zero, List.push_toArray, List.append_toArray, List.nil_append, List.cons_append]
  refine wpIn_wide.2 ?_
  go_wp2_with (go_at_call 6; (with_reducible refine (awake34_any _).mono ?_); rintro e w1 ⟨rfl, hb1⟩; have G1 := Lib.hid (G0.out.on hb1); clear hb1 G0; have x2 := (cell1 G1.out.lb).1)
  clear x2
  go_cut [5, 6] from 15 (fun s5 s6 wx => ∃ k5 k6 AX AY cx cy, s5 = .pointer (some ⟨k5, 0, none⟩) ∧ s6 = .pointer (some ⟨k6, 0, none⟩) ∧ GW l q z tz AX AY cx cy k5 k6 wx ∧ (w1.heap.size ≤ k5 ∧ w1.heap.size ≤ k6 ∧ (∀ a, AX = some a → w1.heap.size ≤ a.block) ∧ (∀ a, AY = some a → w1.heap.size ≤ a.block)) ∧ Below w1.heap.size w1 wx)
  case first =>
  -- R5 begin
    refine wp_region_noPanic ?_
    refine wp_region_held_drew (S := (fun wx => Below w1.heap.size w1 wx)) (by kernel_rfl) ⟨rfl, rfl, rfl, Nat.le_refl _, fun _ _ => rfl⟩ (fun HS => ?_)
    refine wpAnyH_take (S := (fun wx => Below w1.heap.size w1 wx)) (i := 0) (oi := { dst := some 20, op := Go.Op.load 22 (Go.Operand.tmp 2), type := 22, pos := "law.go:27", after := #[], guard := none }) (v := ?v1) rfl (by kernel_rfl) (by kernel_rfl) (by kernel_rfl) (fun _ _ _ h => h) (Or.inl ⟨by rfl, ?y1⟩) HS ?r1
    case y1 => (intro wx hSw; have y0 := (cell1 (hp_on' G1.out.lb hSw)).1; go_simp; first | done | with_reducible rfl | skip)
    try simp only [Act.put, List.setIfInBounds_toArray, List.set_cons_zero, List.set_cons_succ]
    refine wpAnyH_take (S := (fun wx => Below w1.heap.size w1 wx)) (i := 2) (oi := { dst := some 22, op := Go.Op.load 22 (Go.Operand.tmp 2), type := 22, pos := "law.go:27", after := #[], guard := none }) (v := ?v2) rfl (by kernel_rfl) (by kernel_rfl) (by kernel_rfl) (fun _ _ _ h => h) (Or.inl ⟨by rfl, ?y2⟩) HS ?r2
    case y2 => (intro wx hSw; have y0 := (cell1 (hp_on' G1.out.lb hSw)).1; go_simp; first | done | with_reducible rfl | skip)
    try simp only [Act.put, List.setIfInBounds_toArray, List.set_cons_zero, List.set_cons_succ]
    refine wpAnyH_ready (rs := [1, 4, 5]) (by kernel_rfl) (by simp) ?_
    refine AllReadyH.cons (o := { dst := some 21, op := Go.Op.call { callee := Go.Callee.value (Go.Operand.func 7), args := #[Go.Operand.tmp 20], argTypes := #[22] }, type := 26, pos := "law.go:27", after := #[{ on := 0, ground := Go.Ground.data }], guard := none }) rfl (fun K hK => ?_) ?_
    · skip
      go_simp
      refine (cO.out _ (G1.out.ra.below HS)).mono ?_; rintro e wn ⟨rfl, hbel⟩
      have HS2 := HS.trans (hbel.mono HS.size)
      clear HS hbel
      refine hK.out _ _ HS2 (fun HS => ?_)
      clear HS2 hK
      try simp only [Act.put, List.setIfInBounds_toArray, List.set_cons_zero, List.set_cons_succ]
      refine wpAnyH_ready (rs := [3, 4, 5]) (by kernel_rfl) (by simp) ?_
      refine AllReadyH.cons (o := { dst := some 23, op := Go.Op.call { callee := Go.Callee.value (Go.Operand.func 8), args := #[Go.Operand.tmp 22], argTypes := #[22] }, type := 30, pos := "law.go:27", after := #[{ on := 2, ground := Go.Ground.data }, { on := 1, ground := Go.Ground.chain }], guard := none }) rfl (fun K hK => ?_) ?_
      · skip
        go_simp
        refine (cR.out _ (G1.out.ra.below HS)).mono ?_; rintro e wn ⟨AX, AY, cx, cy, rfl, hrx, hry, ⟨hfx, hfy⟩, hbel⟩
        have RX := Lib.hid hrx
        have RY := Lib.hid hry
        have F := Lib.hid (And.intro (fun a e => Nat.le_trans HS.size (hfx a e)) (fun a e => Nat.le_trans HS.size (hfy a e)))
        clear hrx hry hfx hfy
        have HS2 := HS.trans (hbel.mono HS.size)
        clear HS hbel
        refine hK.out _ _ HS2 (fun HS => ?_)
        clear HS2 hK
        try simp only [Act.put, List.setIfInBounds_toArray, List.set_cons_zero, List.set_cons_succ]
        refine wpAnyH_ready (rs := [4, 5]) (by kernel_rfl) (by simp) ?_
        refine AllReadyH.cons (o := { dst := some 5, op := Go.Op.alloc 26, type := 0, pos := "law.go:27", after := #[], guard := none }) rfl (fun K hK => ?_) ?_
        · skip
          refine st_alloc rfl rfl (fun b5 wn hge hrow hbel => ?_)
          have N5 := Lib.hid (And.intro (irow_ne RX.out hge) (irow_ne RY.out hge))
          replace RX := Lib.hid (RX.out.below hbel)
          replace RY := Lib.hid (RY.out.below hbel)
          have P5 := Lib.hid (And.intro hrow (Nat.le_trans HS.size hge))
          clear hrow hge
          have HS2 := HS.trans (hbel.mono HS.size)
          clear HS hbel
          refine hK.out _ _ HS2 (fun HS => ?_)
          clear HS2 hK
          try simp only [Act.put, List.setIfInBounds_toArray, List.set_cons_zero, List.set_cons_succ]
          refine wpAnyH_ready (rs := [5]) (by kernel_rfl) (by simp) ?_
          refine AllReadyH.cons (o := { dst := some 6, op := Go.Op.alloc 30, type := 0, pos := "law.go:27", after := #[], guard := none }) rfl (fun K hK => ?_) AllReadyH.nil
          refine st_alloc6 rfl rfl (fun b6 wn hge hrow hbel => ?_)
          have D : Hid (b5 ≠ b6) := Lib.hid (by have := (Array.getElem?_eq_some_iff.1 P5.out.1).1; omega)
          have N6 := Lib.hid (And.intro (irow_ne RX.out hge) (irow_ne RY.out hge))
          replace RX := Lib.hid (RX.out.below hbel)
          replace RY := Lib.hid (RY.out.below hbel)
          replace P5 := Lib.hid (And.intro (hp_on' P5.out.1 hbel) P5.out.2)
          have P6 := Lib.hid (And.intro hrow (Nat.le_trans HS.size hge))
          clear hrow hge
          have HS2 := HS.trans (hbel.mono HS.size)
          clear HS hbel
          refine hK.out _ _ HS2 (fun HS => ?_)
          clear HS2 hK
          try simp only [Act.put, List.setIfInBounds_toArray, List.set_cons_zero, List.set_cons_succ]
          refine wpAnyH_ready (rs := [6]) (by kernel_rfl) (by simp) ?_
          refine AllReadyH.cons (o := { dst := none, op := Go.Op.store 26 (Go.Operand.tmp 5) (Go.Operand.tmp 21), type := 0, pos := "law.go:27", after := #[{ on := 4, ground := Go.Ground.data }, { on := 1, ground := Go.Ground.data }, { on := 3, ground := Go.Ground.chain }, { on := 0, ground := Go.Ground.phase }, { on := 1, ground := Go.Ground.phase }, { on := 2, ground := Go.Ground.textOnly Go.Departure.lateStores }, { on := 3, ground := Go.Ground.textOnly Go.Departure.lateStoresUnsure }, { on := 4, ground := Go.Ground.phase }, { on := 5, ground := Go.Ground.phase }], guard := none }) rfl (fun K hK => ?_) AllReadyH.nil
          refine st_store (p := 5) (q := 21) (b := b5) (u := zW) (v := q) rfl rfl rfl rfl P5.out.1 rfl (fun wn hrow hgr => ?_)
          replace P6 := Lib.hid (And.intro (keep_other P6.out.1 hgr (by have := D.out; omega)) P6.out.2)
          replace RX := Lib.hid (irow_put RX.out N5.out.1 hgr)
          replace RY := Lib.hid (irow_put RY.out N5.out.2 hgr)
          have HS2 := below_grown1 HS hgr P5.out.2
          replace P5 := Lib.hid (And.intro hrow P5.out.2)
          clear HS hrow hgr
          refine hK.out _ _ HS2 (fun HS => ?_)
          clear HS2 hK
          try simp only [Act.put, List.setIfInBounds_toArray, List.set_cons_zero, List.set_cons_succ]
          refine wpAnyH_ready (rs := [7]) (by kernel_rfl) (by simp) ?_
          refine AllReadyH.cons (o := { dst := none, op := Go.Op.store 30 (Go.Operand.tmp 6) (Go.Operand.tmp 23), type := 0, pos := "law.go:27", after := #[{ on := 5, ground := Go.Ground.data }, { on := 3, ground := Go.Ground.data }, { on := 6, ground := Go.Ground.chain }, { on := 0, ground := Go.Ground.phase }, { on := 1, ground := Go.Ground.phase }, { on := 2, ground := Go.Ground.phase }, { on := 3, ground := Go.Ground.phase }, { on := 4, ground := Go.Ground.phase }, { on := 5, ground := Go.Ground.phase }, { on := 6, ground := Go.Ground.phase }], guard := none }) rfl (fun K hK => ?_) AllReadyH.nil
          refine st_store6 (p := 6) (q := 23) (b := b6) rfl rfl rfl rfl P6.out.1 rfl (fun wn hrow hgr => ?_)
          replace P5 := Lib.hid (And.intro (keep_other P5.out.1 hgr (by have := D.out; omega)) P5.out.2)
          replace RX := Lib.hid (irow_put RX.out N6.out.1 hgr)
          replace RY := Lib.hid (irow_put RY.out N6.out.2 hgr)
          have HS2 := below_grown1 HS hgr P6.out.2
          replace P6 := Lib.hid (And.intro hrow P6.out.2)
          clear HS hrow hgr
          refine hK.out _ _ HS2 (fun HS => ?_)
          clear HS2 hK
          try simp only [Act.put, List.setIfInBounds_toArray, List.set_cons_zero, List.set_cons_succ]
          refine wpAnyH_done (by kernel_rfl) ?_ _
          refine NoPanic.normal ?_
          go_wp2
          go_meet
          case rel => exact ⟨b5, b6, AX, AY, cx, cy, rfl, rfl, ⟨P5.out.1, P6.out.1, RX.out, RY.out⟩, ⟨P5.out.2, P6.out.2, F.out⟩, HS⟩
        refine AllReadyH.cons (o := { dst := some 6, op := Go.Op.alloc 30, type := 0, pos := "law.go:27", after := #[], guard := none }) rfl (fun K hK => ?_) AllReadyH.nil
        refine st_alloc6 rfl rfl (fun b6 wn hge hrow hbel => ?_)
        have N6 := Lib.hid (And.intro (irow_ne RX.out hge) (irow_ne RY.out hge))
        replace RX := Lib.hid (RX.out.below hbel)
        replace RY := Lib.hid (RY.out.below hbel)
        have P6 := Lib.hid (And.intro hrow (Nat.le_trans HS.size hge))
        clear hrow hge
        have HS2 := HS.trans (hbel.mono HS.size)
        clear HS hbel
        refine hK.out _ _ HS2 (fun HS => ?_)
        clear HS2 hK
        try simp only [Act.put, List.setIfInBounds_toArray, List.set_cons_zero, List.set_cons_succ]
        refine wpAnyH_ready (rs := [4]) (by kernel_rfl) (by simp) ?_
        refine AllReadyH.cons (o := { dst := some 5, op := Go.Op.alloc 26, type := 0, pos := "law.go:27", after := #[], guard := none }) rfl (fun K hK => ?_) AllReadyH.nil
        refine st_alloc rfl rfl (fun b5 wn hge hrow hbel => ?_)
        have D : Hid (b5 ≠ b6) := Lib.hid (by have := (Array.getElem?_eq_some_iff.1 P6.out.1).1; omega)
        have N5 := Lib.hid (And.intro (irow_ne RX.out hge) (irow_ne RY.out hge))
        replace RX := Lib.hid (RX.out.below hbel)
        replace RY := Lib.hid (RY.out.below hbel)
        replace P6 := Lib.hid (And.intro (hp_on' P6.out.1 hbel) P6.out.2)
        have P5 := Lib.hid (And.intro hrow (Nat.le_trans HS.size hge))
        clear hrow hge
        have HS2 := HS.trans (hbel.mono HS.size)
        clear HS hbel
        refine hK.out _ _ HS2 (fun HS => ?_)
        clear HS2 hK
        try simp only [Act.put, List.setIfInBounds_toArray, List.set_cons_zero, List.set_cons_succ]
        refine wpAnyH_ready (rs := [6]) (by kernel_rfl) (by simp) ?_
        refine AllReadyH.cons (o := { dst := none, op := Go.Op.store 26 (Go.Operand.tmp 5) (Go.Operand.tmp 21), type := 0, pos := "law.go:27", after := #[{ on := 4, ground := Go.Ground.data }, { on := 1, ground := Go.Ground.data }, { on := 3, ground := Go.Ground.chain }, { on := 0, ground := Go.Ground.phase }, { on := 1, ground := Go.Ground.phase }, { on := 2, ground := Go.Ground.textOnly Go.Departure.lateStores }, { on := 3, ground := Go.Ground.textOnly Go.Departure.lateStoresUnsure }, { on := 4, ground := Go.Ground.phase }, { on := 5, ground := Go.Ground.phase }], guard := none }) rfl (fun K hK => ?_) AllReadyH.nil
        refine st_store (p := 5) (q := 21) (b := b5) (u := zW) (v := q) rfl rfl rfl rfl P5.out.1 rfl (fun wn hrow hgr => ?_)
        replace P6 := Lib.hid (And.intro (keep_other P6.out.1 hgr (by have := D.out; omega)) P6.out.2)
        replace RX := Lib.hid (irow_put RX.out N5.out.1 hgr)
        replace RY := Lib.hid (irow_put RY.out N5.out.2 hgr)
        have HS2 := below_grown1 HS hgr P5.out.2
        replace P5 := Lib.hid (And.intro hrow P5.out.2)
        clear HS hrow hgr
        refine hK.out _ _ HS2 (fun HS => ?_)
        clear HS2 hK
        try simp only [Act.put, List.setIfInBounds_toArray, List.set_cons_zero, List.set_cons_succ]
        refine wpAnyH_ready (rs := [7]) (by kernel_rfl) (by simp) ?_
        refine AllReadyH.cons (o := { dst := none, op := Go.Op.store 30 (Go.Operand.tmp 6) (Go.Operand.tmp 23), type := 0, pos := "law.go:27", after := #[{ on := 5, ground := Go.Ground.data }, { on := 3, ground := Go.Ground.data }, { on := 6, ground := Go.Ground.chain }, { on := 0, ground := Go.Ground.phase }, { on := 1, ground := Go.Ground.phase }, { on := 2, ground := Go.Ground.phase }, { on := 3, ground := Go.Ground.phase }, { on := 4, ground := Go.Ground.phase }, { on := 5, ground := Go.Ground.phase }, { on := 6, ground := Go.Ground.phase }], guard := none }) rfl (fun K hK => ?_) AllReadyH.nil
        refine st_store6 (p := 6) (q := 23) (b := b6) rfl rfl rfl rfl P6.out.1 rfl (fun wn hrow hgr => ?_)
        replace P5 := Lib.hid (And.intro (keep_other P5.out.1 hgr (by have := D.out; omega)) P5.out.2)
        replace RX := Lib.hid (irow_put RX.out N6.out.1 hgr)
        replace RY := Lib.hid (irow_put RY.out N6.out.2 hgr)
        have HS2 := below_grown1 HS hgr P6.out.2
        replace P6 := Lib.hid (And.intro hrow P6.out.2)
        clear HS hrow hgr
        refine hK.out _ _ HS2 (fun HS => ?_)
        clear HS2 hK
        try simp only [Act.put, List.setIfInBounds_toArray, List.set_cons_zero, List.set_cons_succ]
        refine wpAnyH_done (by kernel_rfl) ?_ _
        refine NoPanic.normal ?_
        go_wp2
        go_meet
        case rel => exact ⟨b5, b6, AX, AY, cx, cy, rfl, rfl, ⟨P5.out.1, P6.out.1, RX.out, RY.out⟩, ⟨P5.out.2, P6.out.2, F.out⟩, HS⟩
      refine AllReadyH.cons (o := { dst := some 5, op := Go.Op.alloc 26, type := 0, pos := "law.go:27", after := #[], guard := none }) rfl (fun K hK => ?_) ?_
      · skip
        refine st_alloc rfl rfl (fun b5 wn hge hrow hbel => ?_)
        have P5 := Lib.hid (And.intro hrow (Nat.le_trans HS.size hge))
        clear hrow hge
        have HS2 := HS.trans (hbel.mono HS.size)
        clear HS hbel
        refine hK.out _ _ HS2 (fun HS => ?_)
        clear HS2 hK
        try simp only [Act.put, List.setIfInBounds_toArray, List.set_cons_zero, List.set_cons_succ]
        refine wpAnyH_ready (rs := [3, 5]) (by kernel_rfl) (by simp) ?_
        refine AllReadyH.cons (o := { dst := some 23, op := Go.Op.call { callee := Go.Callee.value (Go.Operand.func 8), args := #[Go.Operand.tmp 22], argTypes := #[22] }, type := 30, pos := "law.go:27", after := #[{ on := 2, ground := Go.Ground.data }, { on := 1, ground := Go.Ground.chain }], guard := none }) rfl (fun K hK => ?_) ?_
        · skip
          go_simp
          refine (cR.out _ (G1.out.ra.below HS)).mono ?_; rintro e wn ⟨AX, AY, cx, cy, rfl, hrx, hry, ⟨hfx, hfy⟩, hbel⟩
          have N5 := Lib.hid (And.intro (irow_far (l := (zwalk begZ true 0 l).map (·.x)) hfx P5.out.1) (irow_far (l := (zwalk begZ true 0 l).map (·.y)) hfy P5.out.1))
          replace P5 := Lib.hid (And.intro (hp_on' P5.out.1 hbel) P5.out.2)
          have RX := Lib.hid hrx
          have RY := Lib.hid hry
          have F := Lib.hid (And.intro (fun a e => Nat.le_trans HS.size (hfx a e)) (fun a e => Nat.le_trans HS.size (hfy a e)))
          clear hrx hry hfx hfy
          have HS2 := HS.trans (hbel.mono HS.size)
          clear HS hbel
          refine hK.out _ _ HS2 (fun HS => ?_)
          clear HS2 hK
          try simp only [Act.put, List.setIfInBounds_toArray, List.set_cons_zero, List.set_cons_succ]
          refine wpAnyH_ready (rs := [5]) (by kernel_rfl) (by simp) ?_
          refine AllReadyH.cons (o := { dst := some 6, op := Go.Op.alloc 30, type := 0, pos := "law.go:27", after := #[], guard := none }) rfl (fun K hK => ?_) AllReadyH.nil
          refine st_alloc6 rfl rfl (fun b6 wn hge hrow hbel => ?_)
          have D : Hid (b5 ≠ b6) := Lib.hid (by have := (Array.getElem?_eq_some_iff.1 P5.out.1).1; omega)
          have N6 := Lib.hid (And.intro (irow_ne RX.out hge) (irow_ne RY.out hge))
          replace RX := Lib.hid (RX.out.below hbel)
          replace RY := Lib.hid (RY.out.below hbel)
          replace P5 := Lib.hid (And.intro (hp_on' P5.out.1 hbel) P5.out.2)
          have P6 := Lib.hid (And.intro hrow (Nat.le_trans HS.size hge))
          clear hrow hge
          have HS2 := HS.trans (hbel.mono HS.size)
          clear HS hbel
          refine hK.out _ _ HS2 (fun HS => ?_)
          clear HS2 hK
          try simp only [Act.put, List.setIfInBounds_toArray, List.set_cons_zero, List.set_cons_succ]
          refine wpAnyH_ready (rs := [6]) (by kernel_rfl) (by simp) ?_
          refine AllReadyH.cons (o := { dst := none, op := Go.Op.store 26 (Go.Operand.tmp 5) (Go.Operand.tmp 21), type := 0, pos := "law.go:27", after := #[{ on := 4, ground := Go.Ground.data }, { on := 1, ground := Go.Ground.data }, { on := 3, ground := Go.Ground.chain }, { on := 0, ground := Go.Ground.phase }, { on := 1, ground := Go.Ground.phase }, { on := 2, ground := Go.Ground.textOnly Go.Departure.lateStores }, { on := 3, ground := Go.Ground.textOnly Go.Departure.lateStoresUnsure }, { on := 4, ground := Go.Ground.phase }, { on := 5, ground := Go.Ground.phase }], guard := none }) rfl (fun K hK => ?_) AllReadyH.nil
          refine st_store (p := 5) (q := 21) (b := b5) (u := zW) (v := q) rfl rfl rfl rfl P5.out.1 rfl (fun wn hrow hgr => ?_)
          replace P6 := Lib.hid (And.intro (keep_other P6.out.1 hgr (by have := D.out; omega)) P6.out.2)
          replace RX := Lib.hid (irow_put RX.out N5.out.1 hgr)
          replace RY := Lib.hid (irow_put RY.out N5.out.2 hgr)
          have HS2 := below_grown1 HS hgr P5.out.2
          replace P5 := Lib.hid (And.intro hrow P5.out.2)
          clear HS hrow hgr
          refine hK.out _ _ HS2 (fun HS => ?_)
          clear HS2 hK
          try simp only [Act.put, List.setIfInBounds_toArray, List.set_cons_zero, List.set_cons_succ]
          refine wpAnyH_ready (rs := [7]) (by kernel_rfl) (by simp) ?_
          refine AllReadyH.cons (o := { dst := none, op := Go.Op.store 30 (Go.Operand.tmp 6) (Go.Operand.tmp 23), type := 0, pos := "law.go:27", after := #[{ on := 5, ground := Go.Ground.data }, { on := 3, ground := Go.Ground.data }, { on := 6, ground := Go.Ground.chain }, { on := 0, ground := Go.Ground.phase }, { on := 1, ground := Go.Ground.phase }, { on := 2, ground := Go.Ground.phase }, { on := 3, ground := Go.Ground.phase }, { on := 4, ground := Go.Ground.phase }, { on := 5, ground := Go.Ground.phase }, { on := 6, ground := Go.Ground.phase }], guard := none }) rfl (fun K hK => ?_) AllReadyH.nil
          refine st_store6 (p := 6) (q := 23) (b := b6) rfl rfl rfl rfl P6.out.1 rfl (fun wn hrow hgr => ?_)
          replace P5 := Lib.hid (And.intro (keep_other P5.out.1 hgr (by have := D.out; omega)) P5.out.2)
          replace RX := Lib.hid (irow_put RX.out N6.out.1 hgr)
          replace RY := Lib.hid (irow_put RY.out N6.out.2 hgr)
          have HS2 := below_grown1 HS hgr P6.out.2
          replace P6 := Lib.hid (And.intro hrow P6.out.2)
          clear HS hrow hgr
          refine hK.out _ _ HS2 (fun HS => ?_)
          clear HS2 hK
          try simp only [Act.put, List.setIfInBounds_toArray, List.set_cons_zero, List.set_cons_succ]
          refine wpAnyH_done (by kernel_rfl) ?_ _
          refine NoPanic.normal ?_
          go_wp2
          go_meet
          case rel => exact ⟨b5, b6, AX, AY, cx, cy, rfl, rfl, ⟨P5.out.1, P6.out.1, RX.out, RY.out⟩, ⟨P5.out.2, P6.out.2, F.out⟩, HS⟩
        refine AllReadyH.cons (o := { dst := some 6, op := Go.Op.alloc 30, type := 0, pos := "law.go:27", after := #[], guard := none }) rfl (fun K hK => ?_) AllReadyH.nil
        refine st_alloc6 rfl rfl (fun b6 wn hge hrow hbel => ?_)
        have D : Hid (b5 ≠ b6) := Lib.hid (by have := (Array.getElem?_eq_some_iff.1 P5.out.1).1; omega)
        replace P5 := Lib.hid (And.intro (hp_on' P5.out.1 hbel) P5.out.2)
        have P6 := Lib.hid (And.intro hrow (Nat.le_trans HS.size hge))
        clear hrow hge
        have HS2 := HS.trans (hbel.mono HS.size)
        clear HS hbel
        refine hK.out _ _ HS2 (fun HS => ?_)
        clear HS2 hK
        try simp only [Act.put, List.setIfInBounds_toArray, List.set_cons_zero, List.set_cons_succ]
        refine wpAnyH_ready (rs := [3]) (by kernel_rfl) (by simp) ?_
        refine AllReadyH.cons (o := { dst := some 23, op := Go.Op.call { callee := Go.Callee.value (Go.Operand.func 8), args := #[Go.Operand.tmp 22], argTypes := #[22] }, type := 30, pos := "law.go:27", after := #[{ on := 2, ground := Go.Ground.data }, { on := 1, ground := Go.Ground.chain }], guard := none }) rfl (fun K hK => ?_) AllReadyH.nil
        go_simp
        refine (cR.out _ (G1.out.ra.below HS)).mono ?_; rintro e wn ⟨AX, AY, cx, cy, rfl, hrx, hry, ⟨hfx, hfy⟩, hbel⟩
        have N5 := Lib.hid (And.intro (irow_far (l := (zwalk begZ true 0 l).map (·.x)) hfx P5.out.1) (irow_far (l := (zwalk begZ true 0 l).map (·.y)) hfy P5.out.1))
        have N6 := Lib.hid (And.intro (irow_far (l := (zwalk begZ true 0 l).map (·.x)) hfx P6.out.1) (irow_far (l := (zwalk begZ true 0 l).map (·.y)) hfy P6.out.1))
        replace P5 := Lib.hid (And.intro (hp_on' P5.out.1 hbel) P5.out.2)
        replace P6 := Lib.hid (And.intro (hp_on' P6.out.1 hbel) P6.out.2)
        have RX := Lib.hid hrx
        have RY := Lib.hid hry
        have F := Lib.hid (And.intro (fun a e => Nat.le_trans HS.size (hfx a e)) (fun a e => Nat.le_trans HS.size (hfy a e)))
        clear hrx hry hfx hfy
        have HS2 := HS.trans (hbel.mono HS.size)
        clear HS hbel
        refine hK.out _ _ HS2 (fun HS => ?_)
        clear HS2 hK
        try simp only [Act.put, List.setIfInBounds_toArray, List.set_cons_zero, List.set_cons_succ]
        refine wpAnyH_ready (rs := [6]) (by kernel_rfl) (by simp) ?_
        refine AllReadyH.cons (o := { dst := none, op := Go.Op.store 26 (Go.Operand.tmp 5) (Go.Operand.tmp 21), type := 0, pos := "law.go:27", after := #[{ on := 4, ground := Go.Ground.data }, { on := 1, ground := Go.Ground.data }, { on := 3, ground := Go.Ground.chain }, { on := 0, ground := Go.Ground.phase }, { on := 1, ground := Go.Ground.phase }, { on := 2, ground := Go.Ground.textOnly Go.Departure.lateStores }, { on := 3, ground := Go.Ground.textOnly Go.Departure.lateStoresUnsure }, { on := 4, ground := Go.Ground.phase }, { on := 5, ground := Go.Ground.phase }], guard := none }) rfl (fun K hK => ?_) AllReadyH.nil
        refine st_store (p := 5) (q := 21) (b := b5) (u := zW) (v := q) rfl rfl rfl rfl P5.out.1 rfl (fun wn hrow hgr => ?_)
        replace P6 := Lib.hid (And.intro (keep_other P6.out.1 hgr (by have := D.out; omega)) P6.out.2)
        replace RX := Lib.hid (irow_put RX.out N5.out.1 hgr)
        replace RY := Lib.hid (irow_put RY.out N5.out.2 hgr)
        have HS2 := below_grown1 HS hgr P5.out.2
        replace P5 := Lib.hid (And.intro hrow P5.out.2)
        clear HS hrow hgr
        refine hK.out _ _ HS2 (fun HS => ?_)
        clear HS2 hK
        try simp only [Act.put, List.setIfInBounds_toArray, List.set_cons_zero, List.set_cons_succ]
        refine wpAnyH_ready (rs := [7]) (by kernel_rfl) (by simp) ?_
        refine AllReadyH.cons (o := { dst := none, op := Go.Op.store 30 (Go.Operand.tmp 6) (Go.Operand.tmp 23), type := 0, pos := "law.go:27", after := #[{ on := 5, ground := Go.Ground.data }, { on := 3, ground := Go.Ground.data }, { on := 6, ground := Go.Ground.chain }, { on := 0, ground := Go.Ground.phase }, { on := 1, ground := Go.Ground.phase }, { on := 2, ground := Go.Ground.phase }, { on := 3, ground := Go.Ground.phase }, { on := 4, ground := Go.Ground.phase }, { on := 5, ground := Go.Ground.phase }, { on := 6, ground := Go.Ground.phase }], guard := none }) rfl (fun K hK => ?_) AllReadyH.nil
        refine st_store6 (p := 6) (q := 23) (b := b6) rfl rfl rfl rfl P6.out.1 rfl (fun wn hrow hgr => ?_)
        replace P5 := Lib.hid (And.intro (keep_other P5.out.1 hgr (by have := D.out; omega)) P5.out.2)
        replace RX := Lib.hid (irow_put RX.out N6.out.1 hgr)
        replace RY := Lib.hid (irow_put RY.out N6.out.2 hgr)
        have HS2 := below_grown1 HS hgr P6.out.2
        replace P6 := Lib.hid (And.intro hrow P6.out.2)
        clear HS hrow hgr
        refine hK.out _ _ HS2 (fun HS => ?_)
        clear HS2 hK
        try simp only [Act.put, List.setIfInBounds_toArray, List.set_cons_zero, List.set_cons_succ]
        refine wpAnyH_done (by kernel_rfl) ?_ _
        refine NoPanic.normal ?_
        go_wp2
        go_meet
        case rel => exact ⟨b5, b6, AX, AY, cx, cy, rfl, rfl, ⟨P5.out.1, P6.out.1, RX.out, RY.out⟩, ⟨P5.out.2, P6.out.2, F.out⟩, HS⟩
      refine AllReadyH.cons (o := { dst := some 6, op := Go.Op.alloc 30, type := 0, pos := "law.go:27", after := #[], guard := none }) rfl (fun K hK => ?_) AllReadyH.nil
      refine st_alloc6 rfl rfl (fun b6 wn hge hrow hbel => ?_)
      have P6 := Lib.hid (And.intro hrow (Nat.le_trans HS.size hge))
      clear hrow hge
      have HS2 := HS.trans (hbel.mono HS.size)
      clear HS hbel
      refine hK.out _ _ HS2 (fun HS => ?_)
      clear HS2 hK
      try simp only [Act.put, List.setIfInBounds_toArray, List.set_cons_zero, List.set_cons_succ]
      refine wpAnyH_ready (rs := [3, 4]) (by kernel_rfl) (by simp) ?_
      refine AllReadyH.cons (o := { dst := some 23, op := Go.Op.call { callee := Go.Callee.value (Go.Operand.func 8), args := #[Go.Operand.tmp 22], argTypes := #[22] }, type := 30, pos := "law.go:27", after := #[{ on := 2, ground := Go.Ground.data }, { on := 1, ground := Go.Ground.chain }], guard := none }) rfl (fun K hK => ?_) ?_
      · skip
        go_simp
        refine (cR.out _ (G1.out.ra.below HS)).mono ?_; rintro e wn ⟨AX, AY, cx, cy, rfl, hrx, hry, ⟨hfx, hfy⟩, hbel⟩
        have N6 := Lib.hid (And.intro (irow_far (l := (zwalk begZ true 0 l).map (·.x)) hfx P6.out.1) (irow_far (l := (zwalk begZ true 0 l).map (·.y)) hfy P6.out.1))
        replace P6 := Lib.hid (And.intro (hp_on' P6.out.1 hbel) P6.out.2)
        have RX := Lib.hid hrx
        have RY := Lib.hid hry
        have F := Lib.hid (And.intro (fun a e => Nat.le_trans HS.size (hfx a e)) (fun a e => Nat.le_trans HS.size (hfy a e)))
        clear hrx hry hfx hfy
        have HS2 := HS.trans (hbel.mono HS.size)
        clear HS hbel
        refine hK.out _ _ HS2 (fun HS => ?_)
        clear HS2 hK
        try simp only [Act.put, List.setIfInBounds_toArray, List.set_cons_zero, List.set_cons_succ]
        refine wpAnyH_ready (rs := [4]) (by kernel_rfl) (by simp) ?_
        refine AllReadyH.cons (o := { dst := some 5, op := Go.Op.alloc 26, type := 0, pos := "law.go:27", after := #[], guard := none }) rfl (fun K hK => ?_) AllReadyH.nil
        refine st_alloc rfl rfl (fun b5 wn hge hrow hbel => ?_)
        have D : Hid (b5 ≠ b6) := Lib.hid (by have := (Array.getElem?_eq_some_iff.1 P6.out.1).1; omega)
        have N5 := Lib.hid (And.intro (irow_ne RX.out hge) (irow_ne RY.out hge))
        replace RX := Lib.hid (RX.out.below hbel)
        replace RY := Lib.hid (RY.out.below hbel)
        replace P6 := Lib.hid (And.intro (hp_on' P6.out.1 hbel) P6.out.2)
        have P5 := Lib.hid (And.intro hrow (Nat.le_trans HS.size hge))
        clear hrow hge
        have HS2 := HS.trans (hbel.mono HS.size)
        clear HS hbel
        refine hK.out _ _ HS2 (fun HS => ?_)
        clear HS2 hK
        try simp only [Act.put, List.setIfInBounds_toArray, List.set_cons_zero, List.set_cons_succ]
        refine wpAnyH_ready (rs := [6]) (by kernel_rfl) (by simp) ?_
        refine AllReadyH.cons (o := { dst := none, op := Go.Op.store 26 (Go.Operand.tmp 5) (Go.Operand.tmp 21), type := 0, pos := "law.go:27", after := #[{ on := 4, ground := Go.Ground.data }, { on := 1, ground := Go.Ground.data }, { on := 3, ground := Go.Ground.chain }, { on := 0, ground := Go.Ground.phase }, { on := 1, ground := Go.Ground.phase }, { on := 2, ground := Go.Ground.textOnly Go.Departure.lateStores }, { on := 3, ground := Go.Ground.textOnly Go.Departure.lateStoresUnsure }, { on := 4, ground := Go.Ground.phase }, { on := 5, ground := Go.Ground.phase }], guard := none }) rfl (fun K hK => ?_) AllReadyH.nil
        refine st_store (p := 5) (q := 21) (b := b5) (u := zW) (v := q) rfl rfl rfl rfl P5.out.1 rfl (fun wn hrow hgr => ?_)
        replace P6 := Lib.hid (And.intro (keep_other P6.out.1 hgr (by have := D.out; omega)) P6.out.2)
        replace RX := Lib.hid (irow_put RX.out N5.out.1 hgr)
        replace RY := Lib.hid (irow_put RY.out N5.out.2 hgr)
        have HS2 := below_grown1 HS hgr P5.out.2
        replace P5 := Lib.hid (And.intro hrow P5.out.2)
        clear HS hrow hgr
        refine hK.out _ _ HS2 (fun HS => ?_)
        clear HS2 hK
        try simp only [Act.put, List.setIfInBounds_toArray, List.set_cons_zero, List.set_cons_succ]
        refine wpAnyH_ready (rs := [7]) (by kernel_rfl) (by simp) ?_
        refine AllReadyH.cons (o := { dst := none, op := Go.Op.store 30 (Go.Operand.tmp 6) (Go.Operand.tmp 23), type := 0, pos := "law.go:27", after := #[{ on := 5, ground := Go.Ground.data }, { on := 3, ground := Go.Ground.data }, { on := 6, ground := Go.Ground.chain }, { on := 0, ground := Go.Ground.phase }, { on := 1, ground := Go.Ground.phase }, { on := 2, ground := Go.Ground.phase }, { on := 3, ground := Go.Ground.phase }, { on := 4, ground := Go.Ground.phase }, { on := 5, ground := Go.Ground.phase }, { on := 6, ground := Go.Ground.phase }], guard := none }) rfl (fun K hK => ?_) AllReadyH.nil
        refine st_store6 (p := 6) (q := 23) (b := b6) rfl rfl rfl rfl P6.out.1 rfl (fun wn hrow hgr => ?_)
        replace P5 := Lib.hid (And.intro (keep_other P5.out.1 hgr (by have := D.out; omega)) P5.out.2)
        replace RX := Lib.hid (irow_put RX.out N6.out.1 hgr)
        replace RY := Lib.hid (irow_put RY.out N6.out.2 hgr)
        have HS2 := below_grown1 HS hgr P6.out.2
        replace P6 := Lib.hid (And.intro hrow P6.out.2)
        clear HS hrow hgr
        refine hK.out _ _ HS2 (fun HS => ?_)
        clear HS2 hK
        try simp only [Act.put, List.setIfInBounds_toArray, List.set_cons_zero, List.set_cons_succ]
        refine wpAnyH_done (by kernel_rfl) ?_ _
        refine NoPanic.normal ?_
        go_wp2
        go_meet
        case rel => exact ⟨b5, b6, AX, AY, cx, cy, rfl, rfl, ⟨P5.out.1, P6.out.1, RX.out, RY.out⟩, ⟨P5.out.2, P6.out.2, F.out⟩, HS⟩
      refine AllReadyH.cons (o := { dst := some 5, op := Go.Op.alloc 26, type := 0, pos := "law.go:27", after := #[], guard := none }) rfl (fun K hK => ?_) AllReadyH.nil
      refine st_alloc rfl rfl (fun b5 wn hge hrow hbel => ?_)
      have D : Hid (b5 ≠ b6) := Lib.hid (by have := (Array.getElem?_eq_some_iff.1 P6.out.1).1; omega)
      replace P6 := Lib.hid (And.intro (hp_on' P6.out.1 hbel) P6.out.2)
      have P5 := Lib.hid (And.intro hrow (Nat.le_trans HS.size hge))
      clear hrow hge
      have HS2 := HS.trans (hbel.mono HS.size)
      clear HS hbel
      refine hK.out _ _ HS2 (fun HS => ?_)
      clear HS2 hK
      try simp only [Act.put, List.setIfInBounds_toArray, List.set_cons_zero, List.set_cons_succ]
      refine wpAnyH_ready (rs := [3]) (by kernel_rfl) (by simp) ?_
      refine AllReadyH.cons (o := { dst := some 23, op := Go.Op.call { callee := Go.Callee.value (Go.Operand.func 8), args := #[Go.Operand.tmp 22], argTypes := #[22] }, type := 30, pos := "law.go:27", after := #[{ on := 2, ground := Go.Ground.data }, { on := 1, ground := Go.Ground.chain }], guard := none }) rfl (fun K hK => ?_) AllReadyH.nil
      go_simp
      refine (cR.out _ (G1.out.ra.below HS)).mono ?_; rintro e wn ⟨AX, AY, cx, cy, rfl, hrx, hry, ⟨hfx, hfy⟩, hbel⟩
      have N5 := Lib.hid (And.intro (irow_far (l := (zwalk begZ true 0 l).map (·.x)) hfx P5.out.1) (irow_far (l := (zwalk begZ true 0 l).map (·.y)) hfy P5.out.1))
      have N6 := Lib.hid (And.intro (irow_far (l := (zwalk begZ true 0 l).map (·.x)) hfx P6.out.1) (irow_far (l := (zwalk begZ true 0 l).map (·.y)) hfy P6.out.1))
      replace P5 := Lib.hid (And.intro (hp_on' P5.out.1 hbel) P5.out.2)
      replace P6 := Lib.hid (And.intro (hp_on' P6.out.1 hbel) P6.out.2)
      have RX := Lib.hid hrx
      have RY := Lib.hid hry
      have F := Lib.hid (And.intro (fun a e => Nat.le_trans HS.size (hfx a e)) (fun a e => Nat.le_trans HS.size (hfy a e)))
      clear hrx hry hfx hfy
      have HS2 := HS.trans (hbel.mono HS.size)
      clear HS hbel
      refine hK.out _ _ HS2 (fun HS => ?_)
      clear HS2 hK
      try simp only [Act.put, List.setIfInBounds_toArray, List.set_cons_zero, List.set_cons_succ]
      refine wpAnyH_ready (rs := [6]) (by kernel_rfl) (by simp) ?_
      refine AllReadyH.cons (o := { dst := none, op := Go.Op.store 26 (Go.Operand.tmp 5) (Go.Operand.tmp 21), type := 0, pos := "law.go:27", after := #[{ on := 4, ground := Go.Ground.data }, { on := 1, ground := Go.Ground.data }, { on := 3, ground := Go.Ground.chain }, { on := 0, ground := Go.Ground.phase }, { on := 1, ground := Go.Ground.phase }, { on := 2, ground := Go.Ground.textOnly Go.Departure.lateStores }, { on := 3, ground := Go.Ground.textOnly Go.Departure.lateStoresUnsure }, { on := 4, ground := Go.Ground.phase }, { on := 5, ground := Go.Ground.phase }], guard := none }) rfl (fun K hK => ?_) AllReadyH.nil
      refine st_store (p := 5) (q := 21) (b := b5) (u := zW) (v := q) rfl rfl rfl rfl P5.out.1 rfl (fun wn hrow hgr => ?_)
      replace P6 := Lib.hid (And.intro (keep_other P6.out.1 hgr (by have := D.out; omega)) P6.out.2)
      replace RX := Lib.hid (irow_put RX.out N5.out.1 hgr)
      replace RY := Lib.hid (irow_put RY.out N5.out.2 hgr)
      have HS2 := below_grown1 HS hgr P5.out.2
      replace P5 := Lib.hid (And.intro hrow P5.out.2)
      clear HS hrow hgr
      refine hK.out _ _ HS2 (fun HS => ?_)
      clear HS2 hK
      try simp only [Act.put, List.setIfInBounds_toArray, List.set_cons_zero, List.set_cons_succ]
      refine wpAnyH_ready (rs := [7]) (by kernel_rfl) (by simp) ?_
      refine AllReadyH.cons (o := { dst := none, op := Go.Op.store 30 (Go.Operand.tmp 6) (Go.Operand.tmp 23), type := 0, pos := "law.go:27", after := #[{ on := 5, ground := Go.Ground.data }, { on := 3, ground := Go.Ground.data }, { on := 6, ground := Go.Ground.chain }, { on := 0, ground := Go.Ground.phase }, { on := 1, ground := Go.Ground.phase }, { on := 2, ground := Go.Ground.phase }, { on := 3, ground := Go.Ground.phase }, { on := 4, ground := Go.Ground.phase }, { on := 5, ground := Go.Ground.phase }, { on := 6, ground := Go.Ground.phase }], guard := none }) rfl (fun K hK => ?_) AllReadyH.nil
      refine st_store6 (p := 6) (q := 23) (b := b6) rfl rfl rfl rfl P6.out.1 rfl (fun wn hrow hgr => ?_)
      replace P5 := Lib.hid (And.intro (keep_other P5.out.1 hgr (by have := D.out; omega)) P5.out.2)
      replace RX := Lib.hid (irow_put RX.out N6.out.1 hgr)
      replace RY := Lib.hid (irow_put RY.out N6.out.2 hgr)
      have HS2 := below_grown1 HS hgr P6.out.2
      replace P6 := Lib.hid (And.intro hrow P6.out.2)
      clear HS hrow hgr
      refine hK.out _ _ HS2 (fun HS => ?_)
      clear HS2 hK
      try simp only [Act.put, List.setIfInBounds_toArray, List.set_cons_zero, List.set_cons_succ]
      refine wpAnyH_done (by kernel_rfl) ?_ _
      refine NoPanic.normal ?_
      go_wp2
      go_meet
      case rel => exact ⟨b5, b6, AX, AY, cx, cy, rfl, rfl, ⟨P5.out.1, P6.out.1, RX.out, RY.out⟩, ⟨P5.out.2, P6.out.2, F.out⟩, HS⟩
    refine AllReadyH.cons (o := { dst := some 5, op := Go.Op.alloc 26, type := 0, pos := "law.go:27", after := #[], guard := none }) rfl (fun K hK => ?_) ?_
    · skip
      refine st_alloc rfl rfl (fun b5 wn hge hrow hbel => ?_)
      have P5 := Lib.hid (And.intro hrow (Nat.le_trans HS.size hge))
      clear hrow hge
      have HS2 := HS.trans (hbel.mono HS.size)
      clear HS hbel
      refine hK.out _ _ HS2 (fun HS => ?_)
      clear HS2 hK
      try simp only [Act.put, List.setIfInBounds_toArray, List.set_cons_zero, List.set_cons_succ]
      refine wpAnyH_ready (rs := [1, 5]) (by kernel_rfl) (by simp) ?_
      refine AllReadyH.cons (o := { dst := some 21, op := Go.Op.call { callee := Go.Callee.value (Go.Operand.func 7), args := #[Go.Operand.tmp 20], argTypes := #[22] }, type := 26, pos := "law.go:27", after := #[{ on := 0, ground := Go.Ground.data }], guard := none }) rfl (fun K hK => ?_) ?_
      · skip
        go_simp
        refine (cO.out _ (G1.out.ra.below HS)).mono ?_; rintro e wn ⟨rfl, hbel⟩
        replace P5 := Lib.hid (And.intro (hp_on' P5.out.1 hbel) P5.out.2)
        have HS2 := HS.trans (hbel.mono HS.size)
        clear HS hbel
        refine hK.out _ _ HS2 (fun HS => ?_)
        clear HS2 hK
        try simp only [Act.put, List.setIfInBounds_toArray, List.set_cons_zero, List.set_cons_succ]
        refine wpAnyH_ready (rs := [3, 5]) (by kernel_rfl) (by simp) ?_
        refine AllReadyH.cons (o := { dst := some 23, op := Go.Op.call { callee := Go.Callee.value (Go.Operand.func 8), args := #[Go.Operand.tmp 22], argTypes := #[22] }, type := 30, pos := "law.go:27", after := #[{ on := 2, ground := Go.Ground.data }, { on := 1, ground := Go.Ground.chain }], guard := none }) rfl (fun K hK => ?_) ?_
        · skip
          go_simp
          refine (cR.out _ (G1.out.ra.below HS)).mono ?_; rintro e wn ⟨AX, AY, cx, cy, rfl, hrx, hry, ⟨hfx, hfy⟩, hbel⟩
          have N5 := Lib.hid (And.intro (irow_far (l := (zwalk begZ true 0 l).map (·.x)) hfx P5.out.1) (irow_far (l := (zwalk begZ true 0 l).map (·.y)) hfy P5.out.1))
          replace P5 := Lib.hid (And.intro (hp_on' P5.out.1 hbel) P5.out.2)
          have RX := Lib.hid hrx
          have RY := Lib.hid hry
          have F := Lib.hid (And.intro (fun a e => Nat.le_trans HS.size (hfx a e)) (fun a e => Nat.le_trans HS.size (hfy a e)))
          clear hrx hry hfx hfy
          have HS2 := HS.trans (hbel.mono HS.size)
          clear HS hbel
          refine hK.out _ _ HS2 (fun HS => ?_)
          clear HS2 hK
          try simp only [Act.put, List.setIfInBounds_toArray, List.set_cons_zero, List.set_cons_succ]
          refine wpAnyH_ready (rs := [5]) (by kernel_rfl) (by simp) ?_
          refine AllReadyH.cons (o := { dst := some 6, op := Go.Op.alloc 30, type := 0, pos := "law.go:27", after := #[], guard := none }) rfl (fun K hK => ?_) AllReadyH.nil
          refine st_alloc6 rfl rfl (fun b6 wn hge hrow hbel => ?_)
          have D : Hid (b5 ≠ b6) := Lib.hid (by have := (Array.getElem?_eq_some_iff.1 P5.out.1).1; omega)
          have N6 := Lib.hid (And.intro (irow_ne RX.out hge) (irow_ne RY.out hge))
          replace RX := Lib.hid (RX.out.below hbel)
          replace RY := Lib.hid (RY.out.below hbel)
          replace P5 := Lib.hid (And.intro (hp_on' P5.out.1 hbel) P5.out.2)
          have P6 := Lib.hid (And.intro hrow (Nat.le_trans HS.size hge))
          clear hrow hge
          have HS2 := HS.trans (hbel.mono HS.size)
          clear HS hbel
          refine hK.out _ _ HS2 (fun HS => ?_)
          clear HS2 hK
          try simp only [Act.put, List.setIfInBounds_toArray, List.set_cons_zero, List.set_cons_succ]
          refine wpAnyH_ready (rs := [6]) (by kernel_rfl) (by simp) ?_
          refine AllReadyH.cons (o := { dst := none, op := Go.Op.store 26 (Go.Operand.tmp 5) (Go.Operand.tmp 21), type := 0, pos := "law.go:27", after := #[{ on := 4, ground := Go.Ground.data }, { on := 1, ground := Go.Ground.data }, { on := 3, ground := Go.Ground.chain }, { on := 0, ground := Go.Ground.phase }, { on := 1, ground := Go.Ground.phase }, { on := 2, ground := Go.Ground.textOnly Go.Departure.lateStores }, { on := 3, ground := Go.Ground.textOnly Go.Departure.lateStoresUnsure }, { on := 4, ground := Go.Ground.phase }, { on := 5, ground := Go.Ground.phase }], guard := none }) rfl (fun K hK => ?_) AllReadyH.nil
          refine st_store (p := 5) (q := 21) (b := b5) (u := zW) (v := q) rfl rfl rfl rfl P5.out.1 rfl (fun wn hrow hgr => ?_)
          replace P6 := Lib.hid (And.intro (keep_other P6.out.1 hgr (by have := D.out; omega)) P6.out.2)
          replace RX := Lib.hid (irow_put RX.out N5.out.1 hgr)
          replace RY := Lib.hid (irow_put RY.out N5.out.2 hgr)
          have HS2 := below_grown1 HS hgr P5.out.2
          replace P5 := Lib.hid (And.intro hrow P5.out.2)
          clear HS hrow hgr
          refine hK.out _ _ HS2 (fun HS => ?_)
          clear HS2 hK
          try simp only [Act.put, List.setIfInBounds_toArray, List.set_cons_zero, List.set_cons_succ]
          refine wpAnyH_ready (rs := [7]) (by kernel_rfl) (by simp) ?_
          refine AllReadyH.cons (o := { dst := none, op := Go.Op.store 30 (Go.Operand.tmp 6) (Go.Operand.tmp 23), type := 0, pos := "law.go:27", after := #[{ on := 5, ground := Go.Ground.data }, { on := 3, ground := Go.Ground.data }, { on := 6, ground := Go.Ground.chain }, { on := 0, ground := Go.Ground.phase }, { on := 1, ground := Go.Ground.phase }, { on := 2, ground := Go.Ground.phase }, { on := 3, ground := Go.Ground.phase }, { on := 4, ground := Go.Ground.phase }, { on := 5, ground := Go.Ground.phase }, { on := 6, ground := Go.Ground.phase }], guard := none }) rfl (fun K hK => ?_) AllReadyH.nil
          refine st_store6 (p := 6) (q := 23) (b := b6) rfl rfl rfl rfl P6.out.1 rfl (fun wn hrow hgr => ?_)
          replace P5 := Lib.hid (And.intro (keep_other P5.out.1 hgr (by have := D.out; omega)) P5.out.2)
          replace RX := Lib.hid (irow_put RX.out N6.out.1 hgr)
          replace RY := Lib.hid (irow_put RY.out N6.out.2 hgr)
          have HS2 := below_grown1 HS hgr P6.out.2
          replace P6 := Lib.hid (And.intro hrow P6.out.2)
          clear HS hrow hgr
          refine hK.out _ _ HS2 (fun HS => ?_)
          clear HS2 hK
          try simp only [Act.put, List.setIfInBounds_toArray, List.set_cons_zero, List.set_cons_succ]
          refine wpAnyH_done (by kernel_rfl) ?_ _
          refine NoPanic.normal ?_
          go_wp2
          go_meet
          case rel => exact ⟨b5, b6, AX, AY, cx, cy, rfl, rfl, ⟨P5.out.1, P6.out.1, RX.out, RY.out⟩, ⟨P5.out.2, P6.out.2, F.out⟩, HS⟩
        refine AllReadyH.cons (o := { dst := some 6, op := Go.Op.alloc 30, type := 0, pos := "law.go:27", after := #[], guard := none }) rfl (fun K hK => ?_) AllReadyH.nil
        refine st_alloc6 rfl rfl (fun b6 wn hge hrow hbel => ?_)
        have D : Hid (b5 ≠ b6) := Lib.hid (by have := (Array.getElem?_eq_some_iff.1 P5.out.1).1; omega)
        replace P5 := Lib.hid (And.intro (hp_on' P5.out.1 hbel) P5.out.2)
        have P6 := Lib.hid (And.intro hrow (Nat.le_trans HS.size hge))
        clear hrow hge
        have HS2 := HS.trans (hbel.mono HS.size)
        clear HS hbel
        refine hK.out _ _ HS2 (fun HS => ?_)
        clear HS2 hK
        try simp only [Act.put, List.setIfInBounds_toArray, List.set_cons_zero, List.set_cons_succ]
        refine wpAnyH_ready (rs := [3]) (by kernel_rfl) (by simp) ?_
        refine AllReadyH.cons (o := { dst := some 23, op := Go.Op.call { callee := Go.Callee.value (Go.Operand.func 8), args := #[Go.Operand.tmp 22], argTypes := #[22] }, type := 30, pos := "law.go:27", after := #[{ on := 2, ground := Go.Ground.data }, { on := 1, ground := Go.Ground.chain }], guard := none }) rfl (fun K hK => ?_) AllReadyH.nil
        go_simp
        refine (cR.out _ (G1.out.ra.below HS)).mono ?_; rintro e wn ⟨AX, AY, cx, cy, rfl, hrx, hry, ⟨hfx, hfy⟩, hbel⟩
        have N5 := Lib.hid (And.intro (irow_far (l := (zwalk begZ true 0 l).map (·.x)) hfx P5.out.1) (irow_far (l := (zwalk begZ true 0 l).map (·.y)) hfy P5.out.1))
        have N6 := Lib.hid (And.intro (irow_far (l := (zwalk begZ true 0 l).map (·.x)) hfx P6.out.1) (irow_far (l := (zwalk begZ true 0 l).map (·.y)) hfy P6.out.1))
        replace P5 := Lib.hid (And.intro (hp_on' P5.out.1 hbel) P5.out.2)
        replace P6 := Lib.hid (And.intro (hp_on' P6.out.1 hbel) P6.out.2)
        have RX := Lib.hid hrx
        have RY := Lib.hid hry
        have F := Lib.hid (And.intro (fun a e => Nat.le_trans HS.size (hfx a e)) (fun a e => Nat.le_trans HS.size (hfy a e)))
        clear hrx hry hfx hfy
        have HS2 := HS.trans (hbel.mono HS.size)
        clear HS hbel
        refine hK.out _ _ HS2 (fun HS => ?_)
        clear HS2 hK
        try simp only [Act.put, List.setIfInBounds_toArray, List.set_cons_zero, List.set_cons_succ]
        refine wpAnyH_ready (rs := [6]) (by kernel_rfl) (by simp) ?_
        refine AllReadyH.cons (o := { dst := none, op := Go.Op.store 26 (Go.Operand.tmp 5) (Go.Operand.tmp 21), type := 0, pos := "law.go:27", after := #[{ on := 4, ground := Go.Ground.data }, { on := 1, ground := Go.Ground.data }, { on := 3, ground := Go.Ground.chain }, { on := 0, ground := Go.Ground.phase }, { on := 1, ground := Go.Ground.phase }, { on := 2, ground := Go.Ground.textOnly Go.Departure.lateStores }, { on := 3, ground := Go.Ground.textOnly Go.Departure.lateStoresUnsure }, { on := 4, ground := Go.Ground.phase }, { on := 5, ground := Go.Ground.phase }], guard := none }) rfl (fun K hK => ?_) AllReadyH.nil
        refine st_store (p := 5) (q := 21) (b := b5) (u := zW) (v := q) rfl rfl rfl rfl P5.out.1 rfl (fun wn hrow hgr => ?_)
        replace P6 := Lib.hid (And.intro (keep_other P6.out.1 hgr (by have := D.out; omega)) P6.out.2)
        replace RX := Lib.hid (irow_put RX.out N5.out.1 hgr)
        replace RY := Lib.hid (irow_put RY.out N5.out.2 hgr)
        have HS2 := below_grown1 HS hgr P5.out.2
        replace P5 := Lib.hid (And.intro hrow P5.out.2)
        clear HS hrow hgr
        refine hK.out _ _ HS2 (fun HS => ?_)
        clear HS2 hK
        try simp only [Act.put, List.setIfInBounds_toArray, List.set_cons_zero, List.set_cons_succ]
        refine wpAnyH_ready (rs := [7]) (by kernel_rfl) (by simp) ?_
        refine AllReadyH.cons (o := { dst := none, op := Go.Op.store 30 (Go.Operand.tmp 6) (Go.Operand.tmp 23), type := 0, pos := "law.go:27", after := #[{ on := 5, ground := Go.Ground.data }, { on := 3, ground := Go.Ground.data }, { on := 6, ground := Go.Ground.chain }, { on := 0, ground := Go.Ground.phase }, { on := 1, ground := Go.Ground.phase }, { on := 2, ground := Go.Ground.phase }, { on := 3, ground := Go.Ground.phase }, { on := 4, ground := Go.Ground.phase }, { on := 5, ground := Go.Ground.phase }, { on := 6, ground := Go.Ground.phase }], guard := none }) rfl (fun K hK => ?_) AllReadyH.nil
        refine st_store6 (p := 6) (q := 23) (b := b6) rfl rfl rfl rfl P6.out.1 rfl (fun wn hrow hgr => ?_)
        replace P5 := Lib.hid (And.intro (keep_other P5.out.1 hgr (by have := D.out; omega)) P5.out.2)
        replace RX := Lib.hid (irow_put RX.out N6.out.1 hgr)
        replace RY := Lib.hid (irow_put RY.out N6.out.2 hgr)
        have HS2 := below_grown1 HS hgr P6.out.2
        replace P6 := Lib.hid (And.intro hrow P6.out.2)
        clear HS hrow hgr
        refine hK.out _ _ HS2 (fun HS => ?_)
        clear HS2 hK
        try simp only [Act.put, List.setIfInBounds_toArray, List.set_cons_zero, List.set_cons_succ]
        refine wpAnyH_done (by kernel_rfl) ?_ _
        refine NoPanic.normal ?_
        go_wp2
        go_meet
        case rel => exact ⟨b5, b6, AX, AY, cx, cy, rfl, rfl, ⟨P5.out.1, P6.out.1, RX.out, RY.out⟩, ⟨P5.out.2, P6.out.2, F.out⟩, HS⟩
      refine AllReadyH.cons (o := { dst := some 6, op := Go.Op.alloc 30, type := 0, pos := "law.go:27", after := #[], guard := none }) rfl (fun K hK => ?_) AllReadyH.nil
      refine st_alloc6 rfl rfl (fun b6 wn hge hrow hbel => ?_)
      have D : Hid (b5 ≠ b6) := Lib.hid (by have := (Array.getElem?_eq_some_iff.1 P5.out.1).1; omega)
      replace P5 := Lib.hid (And.intro (hp_on' P5.out.1 hbel) P5.out.2)
      have P6 := Lib.hid (And.intro hrow (Nat.le_trans HS.size hge))
      clear hrow hge
      have HS2 := HS.trans (hbel.mono HS.size)
      clear HS hbel
      refine hK.out _ _ HS2 (fun HS => ?_)
      clear HS2 hK
      try simp only [Act.put, List.setIfInBounds_toArray, List.set_cons_zero, List.set_cons_succ]
      refine wpAnyH_ready (rs := [1]) (by kernel_rfl) (by simp) ?_
      refine AllReadyH.cons (o := { dst := some 21, op := Go.Op.call { callee := Go.Callee.value (Go.Operand.func 7), args := #[Go.Operand.tmp 20], argTypes := #[22] }, type := 26, pos := "law.go:27", after := #[{ on := 0, ground := Go.Ground.data }], guard := none }) rfl (fun K hK => ?_) AllReadyH.nil
      go_simp
      refine (cO.out _ (G1.out.ra.below HS)).mono ?_; rintro e wn ⟨rfl, hbel⟩
      replace P5 := Lib.hid (And.intro (hp_on' P5.out.1 hbel) P5.out.2)
      replace P6 := Lib.hid (And.intro (hp_on' P6.out.1 hbel) P6.out.2)
      have HS2 := HS.trans (hbel.mono HS.size)
      clear HS hbel
      refine hK.out _ _ HS2 (fun HS => ?_)
      clear HS2 hK
      try simp only [Act.put, List.setIfInBounds_toArray, List.set_cons_zero, List.set_cons_succ]
      refine wpAnyH_ready (rs := [3]) (by kernel_rfl) (by simp) ?_
      refine AllReadyH.cons (o := { dst := some 23, op := Go.Op.call { callee := Go.Callee.value (Go.Operand.func 8), args := #[Go.Operand.tmp 22], argTypes := #[22] }, type := 30, pos := "law.go:27", after := #[{ on := 2, ground := Go.Ground.data }, { on := 1, ground := Go.Ground.chain }], guard := none }) rfl (fun K hK => ?_) AllReadyH.nil
      go_simp
      refine (cR.out _ (G1.out.ra.below HS)).mono ?_; rintro e wn ⟨AX, AY, cx, cy, rfl, hrx, hry, ⟨hfx, hfy⟩, hbel⟩
      have N5 := Lib.hid (And.intro (irow_far (l := (zwalk begZ true 0 l).map (·.x)) hfx P5.out.1) (irow_far (l := (zwalk begZ true 0 l).map (·.y)) hfy P5.out.1))
      have N6 := Lib.hid (And.intro (irow_far (l := (zwalk begZ true 0 l).map (·.x)) hfx P6.out.1) (irow_far (l := (zwalk begZ true 0 l).map (·.y)) hfy P6.out.1))
      replace P5 := Lib.hid (And.intro (hp_on' P5.out.1 hbel) P5.out.2)
      replace P6 := Lib.hid (And.intro (hp_on' P6.out.1 hbel) P6.out.2)
      have RX := Lib.hid hrx
      have RY := Lib.hid hry
      have F := Lib.hid (And.intro (fun a e => Nat.le_trans HS.size (hfx a e)) (fun a e => Nat.le_trans HS.size (hfy a e)))
      clear hrx hry hfx hfy
      have HS2 := HS.trans (hbel.mono HS.size)
      clear HS hbel
      refine hK.out _ _ HS2 (fun HS => ?_)
      clear HS2 hK
      try simp only [Act.put, List.setIfInBounds_toArray, List.set_cons_zero, List.set_cons_succ]
      refine wpAnyH_ready (rs := [6]) (by kernel_rfl) (by simp) ?_
      refine AllReadyH.cons (o := { dst := none, op := Go.Op.store 26 (Go.Operand.tmp 5) (Go.Operand.tmp 21), type := 0, pos := "law.go:27", after := #[{ on := 4, ground := Go.Ground.data }, { on := 1, ground := Go.Ground.data }, { on := 3, ground := Go.Ground.chain }, { on := 0, ground := Go.Ground.phase }, { on := 1, ground := Go.Ground.phase }, { on := 2, ground := Go.Ground.textOnly Go.Departure.lateStores }, { on := 3, ground := Go.Ground.textOnly Go.Departure.lateStoresUnsure }, { on := 4, ground := Go.Ground.phase }, { on := 5, ground := Go.Ground.phase }], guard := none }) rfl (fun K hK => ?_) AllReadyH.nil
      refine st_store (p := 5) (q := 21) (b := b5) (u := zW) (v := q) rfl rfl rfl rfl P5.out.1 rfl (fun wn hrow hgr => ?_)
      replace P6 := Lib.hid (And.intro (keep_other P6.out.1 hgr (by have := D.out; omega)) P6.out.2)
      replace RX := Lib.hid (irow_put RX.out N5.out.1 hgr)
      replace RY := Lib.hid (irow_put RY.out N5.out.2 hgr)
      have HS2 := below_grown1 HS hgr P5.out.2
      replace P5 := Lib.hid (And.intro hrow P5.out.2)
      clear HS hrow hgr
      refine hK.out _ _ HS2 (fun HS => ?_)
      clear HS2 hK
      try simp only [Act.put, List.setIfInBounds_toArray, List.set_cons_zero, List.set_cons_succ]
      refine wpAnyH_ready (rs := [7]) (by kernel_rfl) (by simp) ?_
      refine AllReadyH.cons (o := { dst := none, op := Go.Op.store 30 (Go.Operand.tmp 6) (Go.Operand.tmp 23), type := 0, pos := "law.go:27", after := #[{ on := 5, ground := Go.Ground.data }, { on := 3, ground := Go.Ground.data }, { on := 6, ground := Go.Ground.chain }, { on := 0, ground := Go.Ground.phase }, { on := 1, ground := Go.Ground.phase }, { on := 2, ground := Go.Ground.phase }, { on := 3, ground := Go.Ground.phase }, { on := 4, ground := Go.Ground.phase }, { on := 5, ground := Go.Ground.phase }, { on := 6, ground := Go.Ground.phase }], guard := none }) rfl (fun K hK => ?_) AllReadyH.nil
      refine st_store6 (p := 6) (q := 23) (b := b6) rfl rfl rfl rfl P6.out.1 rfl (fun wn hrow hgr => ?_)
      replace P5 := Lib.hid (And.intro (keep_other P5.out.1 hgr (by have := D.out; omega)) P5.out.2)
      replace RX := Lib.hid (irow_put RX.out N6.out.1 hgr)
      replace RY := Lib.hid (irow_put RY.out N6.out.2 hgr)
      have HS2 := below_grown1 HS hgr P6.out.2
      replace P6 := Lib.hid (And.intro hrow P6.out.2)
      clear HS hrow hgr
      refine hK.out _ _ HS2 (fun HS => ?_)
      clear HS2 hK
      try simp only [Act.put, List.setIfInBounds_toArray, List.set_cons_zero, List.set_cons_succ]
      refine wpAnyH_done (by kernel_rfl) ?_ _
      refine NoPanic.normal ?_
      go_wp2
      go_meet
      case rel => exact ⟨b5, b6, AX, AY, cx, cy, rfl, rfl, ⟨P5.out.1, P6.out.1, RX.out, RY.out⟩, ⟨P5.out.2, P6.out.2, F.out⟩, HS⟩
    refine AllReadyH.cons (o := { dst := some 6, op := Go.Op.alloc 30, type := 0, pos := "law.go:27", after := #[], guard := none }) rfl (fun K hK => ?_) AllReadyH.nil
    refine st_alloc6 rfl rfl (fun b6 wn hge hrow hbel => ?_)
    have P6 := Lib.hid (And.intro hrow (Nat.le_trans HS.size hge))
    clear hrow hge
    have HS2 := HS.trans (hbel.mono HS.size)
    clear HS hbel
    refine hK.out _ _ HS2 (fun HS => ?_)
    clear HS2 hK
    try simp only [Act.put, List.setIfInBounds_toArray, List.set_cons_zero, List.set_cons_succ]
    refine wpAnyH_ready (rs := [1, 4]) (by kernel_rfl) (by simp) ?_
    refine AllReadyH.cons (o := { dst := some 21, op := Go.Op.call { callee := Go.Callee.value (Go.Operand.func 7), args := #[Go.Operand.tmp 20], argTypes := #[22] }, type := 26, pos := "law.go:27", after := #[{ on := 0, ground := Go.Ground.data }], guard := none }) rfl (fun K hK => ?_) ?_
    · skip
      go_simp
      refine (cO.out _ (G1.out.ra.below HS)).mono ?_; rintro e wn ⟨rfl, hbel⟩
      replace P6 := Lib.hid (And.intro (hp_on' P6.out.1 hbel) P6.out.2)
      have HS2 := HS.trans (hbel.mono HS.size)
      clear HS hbel
      refine hK.out _ _ HS2 (fun HS => ?_)
      clear HS2 hK
      try simp only [Act.put, List.setIfInBounds_toArray, List.set_cons_zero, List.set_cons_succ]
      refine wpAnyH_ready (rs := [3, 4]) (by kernel_rfl) (by simp) ?_
      refine AllReadyH.cons (o := { dst := some 23, op := Go.Op.call { callee := Go.Callee.value (Go.Operand.func 8), args := #[Go.Operand.tmp 22], argTypes := #[22] }, type := 30, pos := "law.go:27", after := #[{ on := 2, ground := Go.Ground.data }, { on := 1, ground := Go.Ground.chain }], guard := none }) rfl (fun K hK => ?_) ?_
      · skip
        go_simp
        refine (cR.out _ (G1.out.ra.below HS)).mono ?_; rintro e wn ⟨AX, AY, cx, cy, rfl, hrx, hry, ⟨hfx, hfy⟩, hbel⟩
        have N6 := Lib.hid (And.intro (irow_far (l := (zwalk begZ true 0 l).map (·.x)) hfx P6.out.1) (irow_far (l := (zwalk begZ true 0 l).map (·.y)) hfy P6.out.1))
        replace P6 := Lib.hid (And.intro (hp_on' P6.out.1 hbel) P6.out.2)
        have RX := Lib.hid hrx
        have RY := Lib.hid hry
        have F := Lib.hid (And.intro (fun a e => Nat.le_trans HS.size (hfx a e)) (fun a e => Nat.le_trans HS.size (hfy a e)))
        clear hrx hry hfx hfy
        have HS2 := HS.trans (hbel.mono HS.size)
        clear HS hbel
        refine hK.out _ _ HS2 (fun HS => ?_)
        clear HS2 hK
        try simp only [Act.put, List.setIfInBounds_toArray, List.set_cons_zero, List.set_cons_succ]
        refine wpAnyH_ready (rs := [4]) (by kernel_rfl) (by simp) ?_
        refine AllReadyH.cons (o := { dst := some 5, op := Go.Op.alloc 26, type := 0, pos := "law.go:27", after := #[], guard := none }) rfl (fun K hK => ?_) AllReadyH.nil
        refine st_alloc rfl rfl (fun b5 wn hge hrow hbel => ?_)
        have D : Hid (b5 ≠ b6) := Lib.hid (by have := (Array.getElem?_eq_some_iff.1 P6.out.1).1; omega)
        have N5 := Lib.hid (And.intro (irow_ne RX.out hge) (irow_ne RY.out hge))
        replace RX := Lib.hid (RX.out.below hbel)
        replace RY := Lib.hid (RY.out.below hbel)
        replace P6 := Lib.hid (And.intro (hp_on' P6.out.1 hbel) P6.out.2)
        have P5 := Lib.hid (And.intro hrow (Nat.le_trans HS.size hge))
        clear hrow hge
        have HS2 := HS.trans (hbel.mono HS.size)
        clear HS hbel
        refine hK.out _ _ HS2 (fun HS => ?_)
        clear HS2 hK
        try simp only [Act.put, List.setIfInBounds_toArray, List.set_cons_zero, List.set_cons_succ]
        refine wpAnyH_ready (rs := [6]) (by kernel_rfl) (by simp) ?_
        refine AllReadyH.cons (o := { dst := none, op := Go.Op.store 26 (Go.Operand.tmp 5) (Go.Operand.tmp 21), type := 0, pos := "law.go:27", after := #[{ on := 4, ground := Go.Ground.data }, { on := 1, ground := Go.Ground.data }, { on := 3, ground := Go.Ground.chain }, { on := 0, ground := Go.Ground.phase }, { on := 1, ground := Go.Ground.phase }, { on := 2, ground := Go.Ground.textOnly Go.Departure.lateStores }, { on := 3, ground := Go.Ground.textOnly Go.Departure.lateStoresUnsure }, { on := 4, ground := Go.Ground.phase }, { on := 5, ground := Go.Ground.phase }], guard := none }) rfl (fun K hK => ?_) AllReadyH.nil
        refine st_store (p := 5) (q := 21) (b := b5) (u := zW) (v := q) rfl rfl rfl rfl P5.out.1 rfl (fun wn hrow hgr => ?_)
        replace P6 := Lib.hid (And.intro (keep_other P6.out.1 hgr (by have := D.out; omega)) P6.out.2)
        replace RX := Lib.hid (irow_put RX.out N5.out.1 hgr)
        replace RY := Lib.hid (irow_put RY.out N5.out.2 hgr)
        have HS2 := below_grown1 HS hgr P5.out.2
        replace P5 := Lib.hid (And.intro hrow P5.out.2)
        clear HS hrow hgr
        refine hK.out _ _ HS2 (fun HS => ?_)
        clear HS2 hK
        try simp only [Act.put, List.setIfInBounds_toArray, List.set_cons_zero, List.set_cons_succ]
        refine wpAnyH_ready (rs := [7]) (by kernel_rfl) (by simp) ?_
        refine AllReadyH.cons (o := { dst := none, op := Go.Op.store 30 (Go.Operand.tmp 6) (Go.Operand.tmp 23), type := 0, pos := "law.go:27", after := #[{ on := 5, ground := Go.Ground.data }, { on := 3, ground := Go.Ground.data }, { on := 6, ground := Go.Ground.chain }, { on := 0, ground := Go.Ground.phase }, { on := 1, ground := Go.Ground.phase }, { on := 2, ground := Go.Ground.phase }, { on := 3, ground := Go.Ground.phase }, { on := 4, ground := Go.Ground.phase }, { on := 5, ground := Go.Ground.phase }, { on := 6, ground := Go.Ground.phase }], guard := none }) rfl (fun K hK => ?_) AllReadyH.nil
        refine st_store6 (p := 6) (q := 23) (b := b6) rfl rfl rfl rfl P6.out.1 rfl (fun wn hrow hgr => ?_)
        replace P5 := Lib.hid (And.intro (keep_other P5.out.1 hgr (by have := D.out; omega)) P5.out.2)
        replace RX := Lib.hid (irow_put RX.out N6.out.1 hgr)
        replace RY := Lib.hid (irow_put RY.out N6.out.2 hgr)
        have HS2 := below_grown1 HS hgr P6.out.2
        replace P6 := Lib.hid (And.intro hrow P6.out.2)
        clear HS hrow hgr
        refine hK.out _ _ HS2 (fun HS => ?_)
        clear HS2 hK
        try simp only [Act.put, List.setIfInBounds_toArray, List.set_cons_zero, List.set_cons_succ]
        refine wpAnyH_done (by kernel_rfl) ?_ _
        refine NoPanic.normal ?_
        go_wp2
        go_meet
        case rel => exact ⟨b5, b6, AX, AY, cx, cy, rfl, rfl, ⟨P5.out.1, P6.out.1, RX.out, RY.out⟩, ⟨P5.out.2, P6.out.2, F.out⟩, HS⟩
      refine AllReadyH.cons (o := { dst := some 5, op := Go.Op.alloc 26, type := 0, pos := "law.go:27", after := #[], guard := none }) rfl (fun K hK => ?_) AllReadyH.nil
      refine st_alloc rfl rfl (fun b5 wn hge hrow hbel => ?_)
      have D : Hid (b5 ≠ b6) := Lib.hid (by have := (Array.getElem?_eq_some_iff.1 P6.out.1).1; omega)
      replace P6 := Lib.hid (And.intro (hp_on' P6.out.1 hbel) P6.out.2)
      have P5 := Lib.hid (And.intro hrow (Nat.le_trans HS.size hge))
      clear hrow hge
      have HS2 := HS.trans (hbel.mono HS.size)
      clear HS hbel
      refine hK.out _ _ HS2 (fun HS => ?_)
      clear HS2 hK
      try simp only [Act.put, List.setIfInBounds_toArray, List.set_cons_zero, List.set_cons_succ]
      refine wpAnyH_ready (rs := [3]) (by kernel_rfl) (by simp) ?_
      refine AllReadyH.cons (o := { dst := some 23, op := Go.Op.call { callee := Go.Callee.value (Go.Operand.func 8), args := #[Go.Operand.tmp 22], argTypes := #[22] }, type := 30, pos := "law.go:27", after := #[{ on := 2, ground := Go.Ground.data }, { on := 1, ground := Go.Ground.chain }], guard := none }) rfl (fun K hK => ?_) AllReadyH.nil
      go_simp
      refine (cR.out _ (G1.out.ra.below HS)).mono ?_; rintro e wn ⟨AX, AY, cx, cy, rfl, hrx, hry, ⟨hfx, hfy⟩, hbel⟩
      have N5 := Lib.hid (And.intro (irow_far (l := (zwalk begZ true 0 l).map (·.x)) hfx P5.out.1) (irow_far (l := (zwalk begZ true 0 l).map (·.y)) hfy P5.out.1))
      have N6 := Lib.hid (And.intro (irow_far (l := (zwalk begZ true 0 l).map (·.x)) hfx P6.out.1) (irow_far (l := (zwalk begZ true 0 l).map (·.y)) hfy P6.out.1))
      replace P5 := Lib.hid (And.intro (hp_on' P5.out.1 hbel) P5.out.2)
      replace P6 := Lib.hid (And.intro (hp_on' P6.out.1 hbel) P6.out.2)
      have RX := Lib.hid hrx
      have RY := Lib.hid hry
      have F := Lib.hid (And.intro (fun a e => Nat.le_trans HS.size (hfx a e)) (fun a e => Nat.le_trans HS.size (hfy a e)))
      clear hrx hry hfx hfy
      have HS2 := HS.trans (hbel.mono HS.size)
      clear HS hbel
      refine hK.out _ _ HS2 (fun HS => ?_)
      clear HS2 hK
      try simp only [Act.put, List.setIfInBounds_toArray, List.set_cons_zero, List.set_cons_succ]
      refine wpAnyH_ready (rs := [6]) (by kernel_rfl) (by simp) ?_
      refine AllReadyH.cons (o := { dst := none, op := Go.Op.store 26 (Go.Operand.tmp 5) (Go.Operand.tmp 21), type := 0, pos := "law.go:27", after := #[{ on := 4, ground := Go.Ground.data }, { on := 1, ground := Go.Ground.data }, { on := 3, ground := Go.Ground.chain }, { on := 0, ground := Go.Ground.phase }, { on := 1, ground := Go.Ground.phase }, { on := 2, ground := Go.Ground.textOnly Go.Departure.lateStores }, { on := 3, ground := Go.Ground.textOnly Go.Departure.lateStoresUnsure }, { on := 4, ground := Go.Ground.phase }, { on := 5, ground := Go.Ground.phase }], guard := none }) rfl (fun K hK => ?_) AllReadyH.nil
      refine st_store (p := 5) (q := 21) (b := b5) (u := zW) (v := q) rfl rfl rfl rfl P5.out.1 rfl (fun wn hrow hgr => ?_)
      replace P6 := Lib.hid (And.intro (keep_other P6.out.1 hgr (by have := D.out; omega)) P6.out.2)
      replace RX := Lib.hid (irow_put RX.out N5.out.1 hgr)
      replace RY := Lib.hid (irow_put RY.out N5.out.2 hgr)
      have HS2 := below_grown1 HS hgr P5.out.2
      replace P5 := Lib.hid (And.intro hrow P5.out.2)
      clear HS hrow hgr
      refine hK.out _ _ HS2 (fun HS => ?_)
      clear HS2 hK
      try simp only [Act.put, List.setIfInBounds_toArray, List.set_cons_zero, List.set_cons_succ]
      refine wpAnyH_ready (rs := [7]) (by kernel_rfl) (by simp) ?_
      refine AllReadyH.cons (o := { dst := none, op := Go.Op.store 30 (Go.Operand.tmp 6) (Go.Operand.tmp 23), type := 0, pos := "law.go:27", after := #[{ on := 5, ground := Go.Ground.data }, { on := 3, ground := Go.Ground.data }, { on := 6, ground := Go.Ground.chain }, { on := 0, ground := Go.Ground.phase }, { on := 1, ground := Go.Ground.phase }, { on := 2, ground := Go.Ground.phase }, { on := 3, ground := Go.Ground.phase }, { on := 4, ground := Go.Ground.phase }, { on := 5, ground := Go.Ground.phase }, { on := 6, ground := Go.Ground.phase }], guard := none }) rfl (fun K hK => ?_) AllReadyH.nil
      refine st_store6 (p := 6) (q := 23) (b := b6) rfl rfl rfl rfl P6.out.1 rfl (fun wn hrow hgr => ?_)
      replace P5 := Lib.hid (And.intro (keep_other P5.out.1 hgr (by have := D.out; omega)) P5.out.2)
      replace RX := Lib.hid (irow_put RX.out N6.out.1 hgr)
      replace RY := Lib.hid (irow_put RY.out N6.out.2 hgr)
      have HS2 := below_grown1 HS hgr P6.out.2
      replace P6 := Lib.hid (And.intro hrow P6.out.2)
      clear HS hrow hgr
      refine hK.out _ _ HS2 (fun HS => ?_)
      clear HS2 hK
      try simp only [Act.put, List.setIfInBounds_toArray, List.set_cons_zero, List.set_cons_succ]
      refine wpAnyH_done (by kernel_rfl) ?_ _
      refine NoPanic.normal ?_
      go_wp2
      go_meet
      case rel => exact ⟨b5, b6, AX, AY, cx, cy, rfl, rfl, ⟨P5.out.1, P6.out.1, RX.out, RY.out⟩, ⟨P5.out.2, P6.out.2, F.out⟩, HS⟩
    refine AllReadyH.cons (o := { dst := some 5, op := Go.Op.alloc 26, type := 0, pos := "law.go:27", after := #[], guard := none }) rfl (fun K hK => ?_) AllReadyH.nil
    refine st_alloc rfl rfl (fun b5 wn hge hrow hbel => ?_)
    have D : Hid (b5 ≠ b6) := Lib.hid (by have := (Array.getElem?_eq_some_iff.1 P6.out.1).1; omega)
    replace P6 := Lib.hid (And.intro (hp_on' P6.out.1 hbel) P6.out.2)
    have P5 := Lib.hid (And.intro hrow (Nat.le_trans HS.size hge))
    clear hrow hge
    have HS2 := HS.trans (hbel.mono HS.size)
    clear HS hbel
    refine hK.out _ _ HS2 (fun HS => ?_)
    clear HS2 hK
    try simp only [Act.put, List.setIfInBounds_toArray, List.set_cons_zero, List.set_cons_succ]
    refine wpAnyH_ready (rs := [1]) (by kernel_rfl) (by simp) ?_
    refine AllReadyH.cons (o := { dst := some 21, op := Go.Op.call { callee := Go.Callee.value (Go.Operand.func 7), args := #[Go.Operand.tmp 20], argTypes := #[22] }, type := 26, pos := "law.go:27", after := #[{ on := 0, ground := Go.Ground.data }], guard := none }) rfl (fun K hK => ?_) AllReadyH.nil
    go_simp
    refine (cO.out _ (G1.out.ra.below HS)).mono ?_; rintro e wn ⟨rfl, hbel⟩
    replace P5 := Lib.hid (And.intro (hp_on' P5.out.1 hbel) P5.out.2)
    replace P6 := Lib.hid (And.intro (hp_on' P6.out.1 hbel) P6.out.2)
    have HS2 := HS.trans (hbel.mono HS.size)
    clear HS hbel
    refine hK.out _ _ HS2 (fun HS => ?_)
    clear HS2 hK
    try simp only [Act.put, List.setIfInBounds_toArray, List.set_cons_zero, List.set_cons_succ]
    refine wpAnyH_ready (rs := [3]) (by kernel_rfl) (by simp) ?_
    refine AllReadyH.cons (o := { dst := some 23, op := Go.Op.call { callee := Go.Callee.value (Go.Operand.func 8), args := #[Go.Operand.tmp 22], argTypes := #[22] }, type := 30, pos := "law.go:27", after := #[{ on := 2, ground := Go.Ground.data }, { on := 1, ground := Go.Ground.chain }], guard := none }) rfl (fun K hK => ?_) AllReadyH.nil
    go_simp
    refine (cR.out _ (G1.out.ra.below HS)).mono ?_; rintro e wn ⟨AX, AY, cx, cy, rfl, hrx, hry, ⟨hfx, hfy⟩, hbel⟩
    have N5 := Lib.hid (And.intro (irow_far (l := (zwalk begZ true 0 l).map (·.x)) hfx P5.out.1) (irow_far (l := (zwalk begZ true 0 l).map (·.y)) hfy P5.out.1))
    have N6 := Lib.hid (And.intro (irow_far (l := (zwalk begZ true 0 l).map (·.x)) hfx P6.out.1) (irow_far (l := (zwalk begZ true 0 l).map (·.y)) hfy P6.out.1))
    replace P5 := Lib.hid (And.intro (hp_on' P5.out.1 hbel) P5.out.2)
    replace P6 := Lib.hid (And.intro (hp_on' P6.out.1 hbel) P6.out.2)
    have RX := Lib.hid hrx
    have RY := Lib.hid hry
    have F := Lib.hid (And.intro (fun a e => Nat.le_trans HS.size (hfx a e)) (fun a e => Nat.le_trans HS.size (hfy a e)))
    clear hrx hry hfx hfy
    have HS2 := HS.trans (hbel.mono HS.size)
    clear HS hbel
    refine hK.out _ _ HS2 (fun HS => ?_)
    clear HS2 hK
    try simp only [Act.put, List.setIfInBounds_toArray, List.set_cons_zero, List.set_cons_succ]
    refine wpAnyH_ready (rs := [6]) (by kernel_rfl) (by simp) ?_
    refine AllReadyH.cons (o := { dst := none, op := Go.Op.store 26 (Go.Operand.tmp 5) (Go.Operand.tmp 21), type := 0, pos := "law.go:27", after := #[{ on := 4, ground := Go.Ground.data }, { on := 1, ground := Go.Ground.data }, { on := 3, ground := Go.Ground.chain }, { on := 0, ground := Go.Ground.phase }, { on := 1, ground := Go.Ground.phase }, { on := 2, ground := Go.Ground.textOnly Go.Departure.lateStores }, { on := 3, ground := Go.Ground.textOnly Go.Departure.lateStoresUnsure }, { on := 4, ground := Go.Ground.phase }, { on := 5, ground := Go.Ground.phase }], guard := none }) rfl (fun K hK => ?_) AllReadyH.nil
    refine st_store (p := 5) (q := 21) (b := b5) (u := zW) (v := q) rfl rfl rfl rfl P5.out.1 rfl (fun wn hrow hgr => ?_)
    replace P6 := Lib.hid (And.intro (keep_other P6.out.1 hgr (by have := D.out; omega)) P6.out.2)
    replace RX := Lib.hid (irow_put RX.out N5.out.1 hgr)
    replace RY := Lib.hid (irow_put RY.out N5.out.2 hgr)
    have HS2 := below_grown1 HS hgr P5.out.2
    replace P5 := Lib.hid (And.intro hrow P5.out.2)
    clear HS hrow hgr
    refine hK.out _ _ HS2 (fun HS => ?_)
    clear HS2 hK
    try simp only [Act.put, List.setIfInBounds_toArray, List.set_cons_zero, List.set_cons_succ]
    refine wpAnyH_ready (rs := [7]) (by kernel_rfl) (by simp) ?_
    refine AllReadyH.cons (o := { dst := none, op := Go.Op.store 30 (Go.Operand.tmp 6) (Go.Operand.tmp 23), type := 0, pos := "law.go:27", after := #[{ on := 5, ground := Go.Ground.data }, { on := 3, ground := Go.Ground.data }, { on := 6, ground := Go.Ground.chain }, { on := 0, ground := Go.Ground.phase }, { on := 1, ground := Go.Ground.phase }, { on := 2, ground := Go.Ground.phase }, { on := 3, ground := Go.Ground.phase }, { on := 4, ground := Go.Ground.phase }, { on := 5, ground := Go.Ground.phase }, { on := 6, ground := Go.Ground.phase }], guard := none }) rfl (fun K hK => ?_) AllReadyH.nil
    refine st_store6 (p := 6) (q := 23) (b := b6) rfl rfl rfl rfl P6.out.1 rfl (fun wn hrow hgr => ?_)
    replace P5 := Lib.hid (And.intro (keep_other P5.out.1 hgr (by have := D.out; omega)) P5.out.2)
    replace RX := Lib.hid (irow_put RX.out N6.out.1 hgr)
    replace RY := Lib.hid (irow_put RY.out N6.out.2 hgr)
    have HS2 := below_grown1 HS hgr P6.out.2
    replace P6 := Lib.hid (And.intro hrow P6.out.2)
    clear HS hrow hgr
    refine hK.out _ _ HS2 (fun HS => ?_)
    clear HS2 hK
    try simp only [Act.put, List.setIfInBounds_toArray, List.set_cons_zero, List.set_cons_succ]
    refine wpAnyH_done (by kernel_rfl) ?_ _
    refine NoPanic.normal ?_
    go_wp2
    go_meet
    case rel => exact ⟨b5, b6, AX, AY, cx, cy, rfl, rfl, ⟨P5.out.1, P6.out.1, RX.out, RY.out⟩, ⟨P5.out.2, P6.out.2, F.out⟩, HS⟩
  -- R5 end
  case rest =>
  obtain ⟨k5, k6, AX, AY, cx, cy, rfl, rfl, hGW, hfr, hb2⟩ := hcut
  have HW := Lib.hid hGW
  have FR := Lib.hid hfr
  have G2 := Lib.hid (G1.out.on hb2)
  have hw1 : w.heap.size + 2 < w1.heap.size := (Array.getElem?_eq_some_iff.1 G1.out.rb).1
  clear hGW hfr hb2 cO cR G1
  obtain ⟨⟨p0, p1, p2, p3, p4⟩, -⟩ := row5 HW.out.b5
  have hb6 := HW.out.b6
  unfold rcs at hb6
  obtain ⟨⟨e0, e1, e2, e3, e4, e5⟩, -⟩ := cells6 hb6
  clear hb6
  go_upto_region 9 with (first
    | (go_at_call 9; (with_reducible refine (cX.out _ _ _ HW.out.rx).mono ?_); rintro e w2 ⟨rfl, hw2⟩; replace hw2 := hw2.symm; subst hw2)
    | (go_at_call 9; (with_reducible refine (cY.out _ _ _ HW.out.ry).mono ?_); rintro e w3 ⟨rfl, hw3⟩; replace hw3 := hw3.symm; subst hw3)
    | (go_at_call 10; (with_reducible refine (cB.out _).mono ?_); rintro e w4 ⟨rfl, hb4⟩; have G4 := Lib.hid (G2.out.on hb4); have HW4 := Lib.hid (HW.out.on hb4); clear hb4 p0 p1 p2 p3 p4 e0 e1 e2 e3 e4 e5 G2 HW))
  have hst1 : (q.st != (l.length : Int)) = false := by rw [AL.out.pf.st]; simp
  have hst2 : (q.st == (l.length : Int)) = true := by rw [AL.out.pf.st]; simp
  have bx := AL.out.pf.bx
  have by_ := AL.out.pf.by_
  obtain ⟨⟨l1, l2⟩, ⟨l3, l4⟩, ⟨l5, l6⟩, ⟨l7, l8⟩⟩ := AL.out.bz
  have n1 : -1000000 ≤ z.lx ∧ -1000000 ≤ z.ly ∧ z.hx ≤ 1000000 ∧ z.hy ≤ 1000000 := by omega
  obtain ⟨n1, n2, n3, n4⟩ := n1
  have q1 := place_eq AL.out.pf.pos (by omega) (by omega)
  have q2 := place_eq AL.out.pf.lo (by omega) (by omega)
  have q3 := place_eq AL.out.pf.hi (by omega) (by omega)
  clear bx by_ l2 l4 l6 l8 cX cY cB
  go_cut [92] from 15 (fun s92 wx => s92 = .bool false ∧ Below w4.heap.size w4 wx)
  case first =>
  -- R9 begin
    refine wp_region_noPanic ?_
    refine wp_region_held_drew (S := (fun wx => Below w4.heap.size w4 wx)) (by kernel_rfl) (⟨rfl, rfl, rfl, Nat.le_refl _, fun _ _ => rfl⟩) (fun HS => ?_)
    refine wpAnyH_take (i := 0) (oi := { dst := some 41, op := Go.Op.fieldAddr 26 (Go.Operand.tmp 5) 0, type := 0, pos := "law.go:31", after := #[], guard := none }) (v := ?vb0) rfl (by kernel_rfl) (by kernel_rfl) (by kernel_rfl) (fun _ _ _ h => h) (Or.inl ⟨by rfl, ?yb0⟩) HS ?rb0
    case yb0 => (intro wx hSw; skip; go_simp; first | done | with_reducible rfl | (exact (IntWalk.i64_in _ (by omega)).symm) | (intro hh; omega) | skip)
    try simp only [Act.put, List.setIfInBounds_toArray, List.set_cons_zero, List.set_cons_succ]
    refine wpAnyH_take (i := 1) (oi := { dst := some 42, op := Go.Op.load 24 (Go.Operand.tmp 41), type := 24, pos := "law.go:31", after := #[{ on := 0, ground := Go.Ground.data }], guard := none }) (v := ?vb1) rfl (by kernel_rfl) (by kernel_rfl) (by kernel_rfl) (fun _ _ _ h => h) (Or.inl ⟨by rfl, ?yb1⟩) HS ?rb1
    case yb1 => (intro wx hSw; obtain ⟨⟨p0, p1, p2, p3, p4⟩, -⟩ := row5 (hp_on' HW4.out.b5 hSw); have hb6 := hp_on' HW4.out.b6 hSw; unfold rcs at hb6; obtain ⟨⟨e0, e1, e2, e3, e4, e5⟩, -⟩ := cells6 hb6; clear hb6; have y0 := (cell1 (hp_on' G4.out.lb hSw)).1; go_simp; first | done | with_reducible rfl | (exact (IntWalk.i64_in _ (by omega)).symm) | (intro hh; omega) | skip)
    try simp only [Act.put, List.setIfInBounds_toArray, List.set_cons_zero, List.set_cons_succ]
    refine wpAnyH_take (i := 2) (oi := { dst := some 43, op := Go.Op.fieldAddr 30 (Go.Operand.tmp 6) 0, type := 0, pos := "law.go:31", after := #[], guard := none }) (v := ?vb2) rfl (by kernel_rfl) (by kernel_rfl) (by kernel_rfl) (fun _ _ _ h => h) (Or.inl ⟨by rfl, ?yb2⟩) HS ?rb2
    case yb2 => (intro wx hSw; skip; go_simp; first | done | with_reducible rfl | (exact (IntWalk.i64_in _ (by omega)).symm) | (intro hh; omega) | skip)
    try simp only [Act.put, List.setIfInBounds_toArray, List.set_cons_zero, List.set_cons_succ]
    refine wpAnyH_take (i := 3) (oi := { dst := some 44, op := Go.Op.load 3 (Go.Operand.tmp 43), type := 3, pos := "law.go:31", after := #[{ on := 2, ground := Go.Ground.data }], guard := none }) (v := ?vb3) rfl (by kernel_rfl) (by kernel_rfl) (by kernel_rfl) (fun _ _ _ h => h) (Or.inl ⟨by rfl, ?yb3⟩) HS ?rb3
    case yb3 => (intro wx hSw; obtain ⟨⟨p0, p1, p2, p3, p4⟩, -⟩ := row5 (hp_on' HW4.out.b5 hSw); have hb6 := hp_on' HW4.out.b6 hSw; unfold rcs at hb6; obtain ⟨⟨e0, e1, e2, e3, e4, e5⟩, -⟩ := cells6 hb6; clear hb6; have y0 := (cell1 (hp_on' G4.out.lb hSw)).1; go_simp; first | done | with_reducible rfl | (exact (IntWalk.i64_in _ (by omega)).symm) | (intro hh; omega) | skip)
    try simp only [Act.put, List.setIfInBounds_toArray, List.set_cons_zero, List.set_cons_succ]
    refine wpAnyH_take (i := 4) (oi := { dst := some 45, op := Go.Op.fieldAddr 30 (Go.Operand.tmp 6) 1, type := 0, pos := "law.go:31", after := #[], guard := none }) (v := ?vb4) rfl (by kernel_rfl) (by kernel_rfl) (by kernel_rfl) (fun _ _ _ h => h) (Or.inl ⟨by rfl, ?yb4⟩) HS ?rb4
    case yb4 => (intro wx hSw; skip; go_simp; first | done | with_reducible rfl | (exact (IntWalk.i64_in _ (by omega)).symm) | (intro hh; omega) | skip)
    try simp only [Act.put, List.setIfInBounds_toArray, List.set_cons_zero, List.set_cons_succ]
    refine wpAnyH_take (i := 5) (oi := { dst := some 46, op := Go.Op.load 3 (Go.Operand.tmp 45), type := 3, pos := "law.go:31", after := #[{ on := 4, ground := Go.Ground.data }], guard := none }) (v := ?vb5) rfl (by kernel_rfl) (by kernel_rfl) (by kernel_rfl) (fun _ _ _ h => h) (Or.inl ⟨by rfl, ?yb5⟩) HS ?rb5
    case yb5 => (intro wx hSw; obtain ⟨⟨p0, p1, p2, p3, p4⟩, -⟩ := row5 (hp_on' HW4.out.b5 hSw); have hb6 := hp_on' HW4.out.b6 hSw; unfold rcs at hb6; obtain ⟨⟨e0, e1, e2, e3, e4, e5⟩, -⟩ := cells6 hb6; clear hb6; have y0 := (cell1 (hp_on' G4.out.lb hSw)).1; go_simp; first | done | with_reducible rfl | (exact (IntWalk.i64_in _ (by omega)).symm) | (intro hh; omega) | skip)
    try simp only [Act.put, List.setIfInBounds_toArray, List.set_cons_zero, List.set_cons_succ]
    refine wpAnyH_ready (rs := [6]) (by kernel_rfl) (by simp) ?_
    refine AllReadyH.cons (o := { dst := some 47, op := Go.Op.call { callee := Go.Callee.value (Go.Operand.func 11), args := #[Go.Operand.tmp 44, Go.Operand.tmp 46], argTypes := #[3, 3] }, type := 24, pos := "law.go:31", after := #[{ on := 3, ground := Go.Ground.data }, { on := 5, ground := Go.Ground.data }], guard := none }) rfl (fun K hK => ?_) AllReadyH.nil
    go_simp
    (refine (place_any _ _ _).mono ?_; rintro e wn ⟨rfl, hwn⟩; subst hwn)
    refine hK.out _ _ (HS) (fun HS => ?_)
    try simp only [Act.put, List.setIfInBounds_toArray, List.set_cons_zero, List.set_cons_succ]
    refine wpAnyH_take (i := 7) (oi := { dst := some 48, op := Go.Op.binOp Go.BinOp.neq 24 (Go.Operand.tmp 42) (Go.Operand.tmp 47) 24, type := 4, pos := "law.go:31", after := #[{ on := 1, ground := Go.Ground.data }, { on := 6, ground := Go.Ground.data }], guard := none }) (v := .bool false) rfl (by kernel_rfl) (by kernel_rfl) (by kernel_rfl) (fun _ _ _ h => h) (Or.inl ⟨by rfl, ?yb7⟩) HS ?rb7
    case yb7 => (intro wx hSw; skip; go_simp; first | done | with_reducible rfl | (exact (IntWalk.i64_in _ (by omega)).symm) | (intro hh; omega) | skip)
    try simp only [Act.put, List.setIfInBounds_toArray, List.set_cons_zero, List.set_cons_succ]
    refine wpAnyH_take (i := 8) (oi := { dst := some 49, op := Go.Op.move (Go.Operand.tmp 48), type := 4, pos := "law.go:31", after := #[{ on := 7, ground := Go.Ground.data }, { on := 6, ground := Go.Ground.chain }], guard := none }) (v := ?vb8) rfl (by kernel_rfl) (by kernel_rfl) (by kernel_rfl) (fun _ _ _ h => h) (Or.inl ⟨by rfl, ?yb8⟩) HS ?rb8
    case yb8 => (intro wx hSw; skip; go_simp; first | done | with_reducible rfl | (exact (IntWalk.i64_in _ (by omega)).symm) | (intro hh; omega) | skip)
    try simp only [Act.put, List.setIfInBounds_toArray, List.set_cons_zero, List.set_cons_succ]
    refine wpAnyH_take (i := 9) (oi := { dst := some 50, op := Go.Op.fieldAddr 26 (Go.Operand.tmp 5) 2, type := 0, pos := "law.go:31", after := #[{ on := 8, ground := Go.Ground.guard }], guard := some (8, false) }) (v := ?vb9) rfl (by kernel_rfl) (by kernel_rfl) (by kernel_rfl) (fun _ _ _ h => h) (Or.inl ⟨by rfl, ?yb9⟩) HS ?rb9
    case yb9 => (intro wx hSw; skip; go_simp; first | done | with_reducible rfl | (exact (IntWalk.i64_in _ (by omega)).symm) | (intro hh; omega) | skip)
    try simp only [Act.put, List.setIfInBounds_toArray, List.set_cons_zero, List.set_cons_succ]
    refine wpAnyH_take (i := 10) (oi := { dst := some 51, op := Go.Op.load 3 (Go.Operand.tmp 50), type := 3, pos := "law.go:31", after := #[{ on := 9, ground := Go.Ground.data }, { on := 8, ground := Go.Ground.guard }], guard := some (8, false) }) (v := ?vb10) rfl (by kernel_rfl) (by kernel_rfl) (by kernel_rfl) (fun _ _ _ h => h) (Or.inl ⟨by rfl, ?yb10⟩) HS ?rb10
    case yb10 => (intro wx hSw; obtain ⟨⟨p0, p1, p2, p3, p4⟩, -⟩ := row5 (hp_on' HW4.out.b5 hSw); have hb6 := hp_on' HW4.out.b6 hSw; unfold rcs at hb6; obtain ⟨⟨e0, e1, e2, e3, e4, e5⟩, -⟩ := cells6 hb6; clear hb6; have y0 := (cell1 (hp_on' G4.out.lb hSw)).1; go_simp; first | done | with_reducible rfl | (exact (IntWalk.i64_in _ (by omega)).symm) | (intro hh; omega) | skip)
    try simp only [Act.put, List.setIfInBounds_toArray, List.set_cons_zero, List.set_cons_succ]
    refine wpAnyH_take (i := 11) (oi := { dst := some 52, op := Go.Op.load 22 (Go.Operand.tmp 2), type := 22, pos := "law.go:31", after := #[{ on := 8, ground := Go.Ground.guard }], guard := some (8, false) }) (v := ?vb11) rfl (by kernel_rfl) (by kernel_rfl) (by kernel_rfl) (fun _ _ _ h => h) (Or.inl ⟨by rfl, ?yb11⟩) HS ?rb11
    case yb11 => (intro wx hSw; obtain ⟨⟨p0, p1, p2, p3, p4⟩, -⟩ := row5 (hp_on' HW4.out.b5 hSw); have hb6 := hp_on' HW4.out.b6 hSw; unfold rcs at hb6; obtain ⟨⟨e0, e1, e2, e3, e4, e5⟩, -⟩ := cells6 hb6; clear hb6; have y0 := (cell1 (hp_on' G4.out.lb hSw)).1; go_simp; first | done | with_reducible rfl | (exact (IntWalk.i64_in _ (by omega)).symm) | (intro hh; omega) | skip)
    try simp only [Act.put, List.setIfInBounds_toArray, List.set_cons_zero, List.set_cons_succ]
    refine wpAnyH_take (i := 12) (oi := { dst := some 53, op := Go.Op.call { callee := Go.Callee.builtin Go.Builtin.len, args := #[Go.Operand.tmp 52], argTypes := #[22] }, type := 3, pos := "law.go:31", after := #[{ on := 11, ground := Go.Ground.data }, { on := 8, ground := Go.Ground.guard }], guard := some (8, false) }) (v := ?vb12) rfl (by kernel_rfl) (by kernel_rfl) (by kernel_rfl) (fun _ _ _ h => h) (Or.inl ⟨by rfl, ?yb12⟩) HS ?rb12
    case yb12 => (intro wx hSw; skip; go_simp; first | done | with_reducible rfl | (exact (IntWalk.i64_in _ (by omega)).symm) | (intro hh; omega) | skip)
    try simp only [Act.put, List.setIfInBounds_toArray, List.set_cons_zero, List.set_cons_succ]
    refine wpAnyH_take (i := 13) (oi := { dst := some 54, op := Go.Op.binOp Go.BinOp.neq 3 (Go.Operand.tmp 51) (Go.Operand.tmp 53) 3, type := 4, pos := "law.go:31", after := #[{ on := 10, ground := Go.Ground.data }, { on := 12, ground := Go.Ground.data }, { on := 8, ground := Go.Ground.guard }], guard := some (8, false) }) (v := .bool false) rfl (by kernel_rfl) (by kernel_rfl) (by kernel_rfl) (fun _ _ _ h => h) (Or.inl ⟨by rfl, ?yb13⟩) HS ?rb13
    case yb13 => (intro wx hSw; skip; go_simp; first | done | with_reducible rfl | (exact (IntWalk.i64_in _ (by omega)).symm) | (intro hh; omega) | skip)
    try simp only [Act.put, List.setIfInBounds_toArray, List.set_cons_zero, List.set_cons_succ]
    refine wpAnyH_take (i := 14) (oi := { dst := some 55, op := Go.Op.pick (Go.Operand.tmp 49) (Go.Operand.const (Go.Value.bool true)) (Go.Operand.tmp 54), type := 4, pos := "law.go:31", after := #[{ on := 8, ground := Go.Ground.data }, { on := 13, ground := Go.Ground.data }], guard := none }) (v := ?vb14) rfl (by kernel_rfl) (by kernel_rfl) (by kernel_rfl) (fun _ _ _ h => h) (Or.inl ⟨by rfl, ?yb14⟩) HS ?rb14
    case yb14 => (intro wx hSw; skip; go_simp; first | done | with_reducible rfl | (exact (IntWalk.i64_in _ (by omega)).symm) | (intro hh; omega) | skip)
    try simp only [Act.put, List.setIfInBounds_toArray, List.set_cons_zero, List.set_cons_succ]
    refine wpAnyH_take (i := 15) (oi := { dst := some 56, op := Go.Op.move (Go.Operand.tmp 55), type := 4, pos := "law.go:31", after := #[{ on := 14, ground := Go.Ground.data }, { on := 8, ground := Go.Ground.chain }], guard := none }) (v := ?vb15) rfl (by kernel_rfl) (by kernel_rfl) (by kernel_rfl) (fun _ _ _ h => h) (Or.inl ⟨by rfl, ?yb15⟩) HS ?rb15
    case yb15 => (intro wx hSw; skip; go_simp; first | done | with_reducible rfl | (exact (IntWalk.i64_in _ (by omega)).symm) | (intro hh; omega) | skip)
    try simp only [Act.put, List.setIfInBounds_toArray, List.set_cons_zero, List.set_cons_succ]
    refine wpAnyH_take (i := 16) (oi := { dst := some 57, op := Go.Op.fieldAddr 26 (Go.Operand.tmp 5) 3, type := 0, pos := "law.go:31", after := #[{ on := 15, ground := Go.Ground.guard }], guard := some (15, false) }) (v := ?vb16) rfl (by kernel_rfl) (by kernel_rfl) (by kernel_rfl) (fun _ _ _ h => h) (Or.inl ⟨by rfl, ?yb16⟩) HS ?rb16
    case yb16 => (intro wx hSw; skip; go_simp; first | done | with_reducible rfl | (exact (IntWalk.i64_in _ (by omega)).symm) | (intro hh; omega) | skip)
    try simp only [Act.put, List.setIfInBounds_toArray, List.set_cons_zero, List.set_cons_succ]
    refine wpAnyH_take (i := 17) (oi := { dst := some 58, op := Go.Op.load 24 (Go.Operand.tmp 57), type := 24, pos := "law.go:31", after := #[{ on := 16, ground := Go.Ground.data }, { on := 15, ground := Go.Ground.guard }], guard := some (15, false) }) (v := ?vb17) rfl (by kernel_rfl) (by kernel_rfl) (by kernel_rfl) (fun _ _ _ h => h) (Or.inl ⟨by rfl, ?yb17⟩) HS ?rb17
    case yb17 => (intro wx hSw; obtain ⟨⟨p0, p1, p2, p3, p4⟩, -⟩ := row5 (hp_on' HW4.out.b5 hSw); have hb6 := hp_on' HW4.out.b6 hSw; unfold rcs at hb6; obtain ⟨⟨e0, e1, e2, e3, e4, e5⟩, -⟩ := cells6 hb6; clear hb6; have y0 := (cell1 (hp_on' G4.out.lb hSw)).1; go_simp; first | done | with_reducible rfl | (exact (IntWalk.i64_in _ (by omega)).symm) | (intro hh; omega) | skip)
    try simp only [Act.put, List.setIfInBounds_toArray, List.set_cons_zero, List.set_cons_succ]
    refine wpAnyH_take (i := 18) (oi := { dst := some 59, op := Go.Op.move (Go.Operand.tmp 7), type := 3, pos := "law.go:31", after := #[{ on := 15, ground := Go.Ground.guard }], guard := some (15, false) }) (v := ?vb18) rfl (by kernel_rfl) (by kernel_rfl) (by kernel_rfl) (fun _ _ _ h => h) (Or.inl ⟨by rfl, ?yb18⟩) HS ?rb18
    case yb18 => (intro wx hSw; skip; go_simp; first | done | with_reducible rfl | (exact (IntWalk.i64_in _ (by omega)).symm) | (intro hh; omega) | skip)
    try simp only [Act.put, List.setIfInBounds_toArray, List.set_cons_zero, List.set_cons_succ]
    refine wpAnyH_take (i := 19) (oi := { dst := some 60, op := Go.Op.move (Go.Operand.tmp 9), type := 3, pos := "law.go:31", after := #[{ on := 15, ground := Go.Ground.guard }], guard := some (15, false) }) (v := ?vb19) rfl (by kernel_rfl) (by kernel_rfl) (by kernel_rfl) (fun _ _ _ h => h) (Or.inl ⟨by rfl, ?yb19⟩) HS ?rb19
    case yb19 => (intro wx hSw; skip; go_simp; first | done | with_reducible rfl | (exact (IntWalk.i64_in _ (by omega)).symm) | (intro hh; omega) | skip)
    try simp only [Act.put, List.setIfInBounds_toArray, List.set_cons_zero, List.set_cons_succ]
    refine wpAnyH_ready (rs := [20]) (by kernel_rfl) (by simp) ?_
    refine AllReadyH.cons (o := { dst := some 61, op := Go.Op.call { callee := Go.Callee.value (Go.Operand.func 11), args := #[Go.Operand.tmp 59, Go.Operand.tmp 60], argTypes := #[3, 3] }, type := 24, pos := "law.go:31", after := #[{ on := 18, ground := Go.Ground.data }, { on := 19, ground := Go.Ground.data }, { on := 15, ground := Go.Ground.chain }, { on := 15, ground := Go.Ground.guard }], guard := some (15, false) }) rfl (fun K hK => ?_) AllReadyH.nil
    go_simp
    (refine (place_any _ _ _).mono ?_; rintro e wn ⟨rfl, hwn⟩; subst hwn)
    refine hK.out _ _ (HS) (fun HS => ?_)
    try simp only [Act.put, List.setIfInBounds_toArray, List.set_cons_zero, List.set_cons_succ]
    refine wpAnyH_take (i := 21) (oi := { dst := some 62, op := Go.Op.binOp Go.BinOp.neq 24 (Go.Operand.tmp 58) (Go.Operand.tmp 61) 24, type := 4, pos := "law.go:31", after := #[{ on := 17, ground := Go.Ground.data }, { on := 20, ground := Go.Ground.data }, { on := 15, ground := Go.Ground.guard }], guard := some (15, false) }) (v := .bool false) rfl (by kernel_rfl) (by kernel_rfl) (by kernel_rfl) (fun _ _ _ h => h) (Or.inl ⟨by rfl, ?yb21⟩) HS ?rb21
    case yb21 => (intro wx hSw; skip; go_simp; first | done | with_reducible rfl | (exact (IntWalk.i64_in _ (by omega)).symm) | (intro hh; omega) | skip)
    try simp only [Act.put, List.setIfInBounds_toArray, List.set_cons_zero, List.set_cons_succ]
    refine wpAnyH_take (i := 22) (oi := { dst := some 63, op := Go.Op.pick (Go.Operand.tmp 56) (Go.Operand.const (Go.Value.bool true)) (Go.Operand.tmp 62), type := 4, pos := "law.go:31", after := #[{ on := 15, ground := Go.Ground.data }, { on := 21, ground := Go.Ground.data }], guard := none }) (v := ?vb22) rfl (by kernel_rfl) (by kernel_rfl) (by kernel_rfl) (fun _ _ _ h => h) (Or.inl ⟨by rfl, ?yb22⟩) HS ?rb22
    case yb22 => (intro wx hSw; skip; go_simp; first | done | with_reducible rfl | (exact (IntWalk.i64_in _ (by omega)).symm) | (intro hh; omega) | skip)
    try simp only [Act.put, List.setIfInBounds_toArray, List.set_cons_zero, List.set_cons_succ]
    refine wpAnyH_take (i := 23) (oi := { dst := some 64, op := Go.Op.move (Go.Operand.tmp 63), type := 4, pos := "law.go:31", after := #[{ on := 22, ground := Go.Ground.data }, { on := 20, ground := Go.Ground.chain }], guard := none }) (v := ?vb23) rfl (by kernel_rfl) (by kernel_rfl) (by kernel_rfl) (fun _ _ _ h => h) (Or.inl ⟨by rfl, ?yb23⟩) HS ?rb23
    case yb23 => (intro wx hSw; skip; go_simp; first | done | with_reducible rfl | (exact (IntWalk.i64_in _ (by omega)).symm) | (intro hh; omega) | skip)
    try simp only [Act.put, List.setIfInBounds_toArray, List.set_cons_zero, List.set_cons_succ]
    refine wpAnyH_take (i := 24) (oi := { dst := some 65, op := Go.Op.fieldAddr 26 (Go.Operand.tmp 5) 4, type := 0, pos := "law.go:31", after := #[{ on := 23, ground := Go.Ground.guard }], guard := some (23, false) }) (v := ?vb24) rfl (by kernel_rfl) (by kernel_rfl) (by kernel_rfl) (fun _ _ _ h => h) (Or.inl ⟨by rfl, ?yb24⟩) HS ?rb24
    case yb24 => (intro wx hSw; skip; go_simp; first | done | with_reducible rfl | (exact (IntWalk.i64_in _ (by omega)).symm) | (intro hh; omega) | skip)
    try simp only [Act.put, List.setIfInBounds_toArray, List.set_cons_zero, List.set_cons_succ]
    refine wpAnyH_take (i := 25) (oi := { dst := some 66, op := Go.Op.load 24 (Go.Operand.tmp 65), type := 24, pos := "law.go:31", after := #[{ on := 24, ground := Go.Ground.data }, { on := 23, ground := Go.Ground.guard }], guard := some (23, false) }) (v := ?vb25) rfl (by kernel_rfl) (by kernel_rfl) (by kernel_rfl) (fun _ _ _ h => h) (Or.inl ⟨by rfl, ?yb25⟩) HS ?rb25
    case yb25 => (intro wx hSw; obtain ⟨⟨p0, p1, p2, p3, p4⟩, -⟩ := row5 (hp_on' HW4.out.b5 hSw); have hb6 := hp_on' HW4.out.b6 hSw; unfold rcs at hb6; obtain ⟨⟨e0, e1, e2, e3, e4, e5⟩, -⟩ := cells6 hb6; clear hb6; have y0 := (cell1 (hp_on' G4.out.lb hSw)).1; go_simp; first | done | with_reducible rfl | (exact (IntWalk.i64_in _ (by omega)).symm) | (intro hh; omega) | skip)
    try simp only [Act.put, List.setIfInBounds_toArray, List.set_cons_zero, List.set_cons_succ]
    refine wpAnyH_take (i := 26) (oi := { dst := some 67, op := Go.Op.move (Go.Operand.tmp 8), type := 3, pos := "law.go:31", after := #[{ on := 23, ground := Go.Ground.guard }], guard := some (23, false) }) (v := ?vb26) rfl (by kernel_rfl) (by kernel_rfl) (by kernel_rfl) (fun _ _ _ h => h) (Or.inl ⟨by rfl, ?yb26⟩) HS ?rb26
    case yb26 => (intro wx hSw; skip; go_simp; first | done | with_reducible rfl | (exact (IntWalk.i64_in _ (by omega)).symm) | (intro hh; omega) | skip)
    try simp only [Act.put, List.setIfInBounds_toArray, List.set_cons_zero, List.set_cons_succ]
    refine wpAnyH_take (i := 27) (oi := { dst := some 68, op := Go.Op.move (Go.Operand.tmp 10), type := 3, pos := "law.go:31", after := #[{ on := 23, ground := Go.Ground.guard }], guard := some (23, false) }) (v := ?vb27) rfl (by kernel_rfl) (by kernel_rfl) (by kernel_rfl) (fun _ _ _ h => h) (Or.inl ⟨by rfl, ?yb27⟩) HS ?rb27
    case yb27 => (intro wx hSw; skip; go_simp; first | done | with_reducible rfl | (exact (IntWalk.i64_in _ (by omega)).symm) | (intro hh; omega) | skip)
    try simp only [Act.put, List.setIfInBounds_toArray, List.set_cons_zero, List.set_cons_succ]
    refine wpAnyH_ready (rs := [28]) (by kernel_rfl) (by simp) ?_
    refine AllReadyH.cons (o := { dst := some 69, op := Go.Op.call { callee := Go.Callee.value (Go.Operand.func 11), args := #[Go.Operand.tmp 67, Go.Operand.tmp 68], argTypes := #[3, 3] }, type := 24, pos := "law.go:31", after := #[{ on := 26, ground := Go.Ground.data }, { on := 27, ground := Go.Ground.data }, { on := 23, ground := Go.Ground.chain }, { on := 23, ground := Go.Ground.guard }], guard := some (23, false) }) rfl (fun K hK => ?_) AllReadyH.nil
    go_simp
    (refine (place_any _ _ _).mono ?_; rintro e wn ⟨rfl, hwn⟩; subst hwn)
    refine hK.out _ _ (HS) (fun HS => ?_)
    try simp only [Act.put, List.setIfInBounds_toArray, List.set_cons_zero, List.set_cons_succ]
    refine wpAnyH_take (i := 29) (oi := { dst := some 70, op := Go.Op.binOp Go.BinOp.neq 24 (Go.Operand.tmp 66) (Go.Operand.tmp 69) 24, type := 4, pos := "law.go:31", after := #[{ on := 25, ground := Go.Ground.data }, { on := 28, ground := Go.Ground.data }, { on := 23, ground := Go.Ground.guard }], guard := some (23, false) }) (v := .bool false) rfl (by kernel_rfl) (by kernel_rfl) (by kernel_rfl) (fun _ _ _ h => h) (Or.inl ⟨by rfl, ?yb29⟩) HS ?rb29
    case yb29 => (intro wx hSw; skip; go_simp; first | done | with_reducible rfl | (exact (IntWalk.i64_in _ (by omega)).symm) | (intro hh; omega) | skip)
    try simp only [Act.put, List.setIfInBounds_toArray, List.set_cons_zero, List.set_cons_succ]
    refine wpAnyH_take (i := 30) (oi := { dst := some 71, op := Go.Op.pick (Go.Operand.tmp 64) (Go.Operand.const (Go.Value.bool true)) (Go.Operand.tmp 70), type := 4, pos := "law.go:31", after := #[{ on := 23, ground := Go.Ground.data }, { on := 29, ground := Go.Ground.data }], guard := none }) (v := ?vb30) rfl (by kernel_rfl) (by kernel_rfl) (by kernel_rfl) (fun _ _ _ h => h) (Or.inl ⟨by rfl, ?yb30⟩) HS ?rb30
    case yb30 => (intro wx hSw; skip; go_simp; first | done | with_reducible rfl | (exact (IntWalk.i64_in _ (by omega)).symm) | (intro hh; omega) | skip)
    try simp only [Act.put, List.setIfInBounds_toArray, List.set_cons_zero, List.set_cons_succ]
    refine wpAnyH_take (i := 31) (oi := { dst := some 72, op := Go.Op.move (Go.Operand.tmp 71), type := 4, pos := "law.go:31", after := #[{ on := 30, ground := Go.Ground.data }, { on := 28, ground := Go.Ground.chain }], guard := none }) (v := ?vb31) rfl (by kernel_rfl) (by kernel_rfl) (by kernel_rfl) (fun _ _ _ h => h) (Or.inl ⟨by rfl, ?yb31⟩) HS ?rb31
    case yb31 => (intro wx hSw; skip; go_simp; first | done | with_reducible rfl | (exact (IntWalk.i64_in _ (by omega)).symm) | (intro hh; omega) | skip)
    try simp only [Act.put, List.setIfInBounds_toArray, List.set_cons_zero, List.set_cons_succ]
    refine wpAnyH_take (i := 32) (oi := { dst := some 73, op := Go.Op.move (Go.Operand.tmp 11), type := 3, pos := "law.go:31", after := #[{ on := 31, ground := Go.Ground.guard }], guard := some (31, false) }) (v := ?vb32) rfl (by kernel_rfl) (by kernel_rfl) (by kernel_rfl) (fun _ _ _ h => h) (Or.inl ⟨by rfl, ?yb32⟩) HS ?rb32
    case yb32 => (intro wx hSw; skip; go_simp; first | done | with_reducible rfl | (exact (IntWalk.i64_in _ (by omega)).symm) | (intro hh; omega) | skip)
    try simp only [Act.put, List.setIfInBounds_toArray, List.set_cons_zero, List.set_cons_succ]
    refine wpAnyH_take (i := 33) (oi := { dst := some 74, op := Go.Op.move (Go.Operand.tmp 8), type := 3, pos := "law.go:31", after := #[{ on := 31, ground := Go.Ground.guard }], guard := some (31, false) }) (v := ?vb33) rfl (by kernel_rfl) (by kernel_rfl) (by kernel_rfl) (fun _ _ _ h => h) (Or.inl ⟨by rfl, ?yb33⟩) HS ?rb33
    case yb33 => (intro wx hSw; skip; go_simp; first | done | with_reducible rfl | (exact (IntWalk.i64_in _ (by omega)).symm) | (intro hh; omega) | skip)
    try simp only [Act.put, List.setIfInBounds_toArray, List.set_cons_zero, List.set_cons_succ]
    refine wpAnyH_take (i := 34) (oi := { dst := some 75, op := Go.Op.move (Go.Operand.tmp 7), type := 3, pos := "law.go:31", after := #[{ on := 31, ground := Go.Ground.guard }], guard := some (31, false) }) (v := ?vb34) rfl (by kernel_rfl) (by kernel_rfl) (by kernel_rfl) (fun _ _ _ h => h) (Or.inl ⟨by rfl, ?yb34⟩) HS ?rb34
    case yb34 => (intro wx hSw; skip; go_simp; first | done | with_reducible rfl | (exact (IntWalk.i64_in _ (by omega)).symm) | (intro hh; omega) | skip)
    try simp only [Act.put, List.setIfInBounds_toArray, List.set_cons_zero, List.set_cons_succ]
    refine wpAnyH_take (i := 35) (oi := { dst := some 76, op := Go.Op.binOp Go.BinOp.sub 3 (Go.Operand.tmp 74) (Go.Operand.tmp 75) 3, type := 3, pos := "law.go:31", after := #[{ on := 33, ground := Go.Ground.data }, { on := 34, ground := Go.Ground.data }, { on := 31, ground := Go.Ground.guard }], guard := some (31, false) }) (v := ?vb35) rfl (by kernel_rfl) (by kernel_rfl) (by kernel_rfl) (fun _ _ _ h => h) (Or.inl ⟨by rfl, ?yb35⟩) HS ?rb35
    case yb35 => (intro wx hSw; skip; go_simp; first | done | with_reducible rfl | (exact (IntWalk.i64_in _ (by omega)).symm) | (intro hh; omega) | skip)
    try simp only [Act.put, List.setIfInBounds_toArray, List.set_cons_zero, List.set_cons_succ]
    refine wpAnyH_take (i := 36) (oi := { dst := some 77, op := Go.Op.binOp Go.BinOp.neq 3 (Go.Operand.tmp 73) (Go.Operand.tmp 76) 3, type := 4, pos := "law.go:31", after := #[{ on := 32, ground := Go.Ground.data }, { on := 35, ground := Go.Ground.data }, { on := 31, ground := Go.Ground.guard }], guard := some (31, false) }) (v := .bool false) rfl (by kernel_rfl) (by kernel_rfl) (by kernel_rfl) (fun _ _ _ h => h) (Or.inl ⟨by rfl, ?yb36⟩) HS ?rb36
    case yb36 => (intro wx hSw; skip; go_simp; first | done | with_reducible rfl | (exact (IntWalk.i64_in _ (by omega)).symm) | (intro hh; omega) | skip)
    try simp only [Act.put, List.setIfInBounds_toArray, List.set_cons_zero, List.set_cons_succ]
    refine wpAnyH_take (i := 37) (oi := { dst := some 78, op := Go.Op.pick (Go.Operand.tmp 72) (Go.Operand.const (Go.Value.bool true)) (Go.Operand.tmp 77), type := 4, pos := "law.go:31", after := #[{ on := 31, ground := Go.Ground.data }, { on := 36, ground := Go.Ground.data }], guard := none }) (v := ?vb37) rfl (by kernel_rfl) (by kernel_rfl) (by kernel_rfl) (fun _ _ _ h => h) (Or.inl ⟨by rfl, ?yb37⟩) HS ?rb37
    case yb37 => (intro wx hSw; skip; go_simp; first | done | with_reducible rfl | (exact (IntWalk.i64_in _ (by omega)).symm) | (intro hh; omega) | skip)
    try simp only [Act.put, List.setIfInBounds_toArray, List.set_cons_zero, List.set_cons_succ]
    refine wpAnyH_take (i := 38) (oi := { dst := some 79, op := Go.Op.move (Go.Operand.tmp 78), type := 4, pos := "law.go:31", after := #[{ on := 37, ground := Go.Ground.data }, { on := 31, ground := Go.Ground.chain }], guard := none }) (v := ?vb38) rfl (by kernel_rfl) (by kernel_rfl) (by kernel_rfl) (fun _ _ _ h => h) (Or.inl ⟨by rfl, ?yb38⟩) HS ?rb38
    case yb38 => (intro wx hSw; skip; go_simp; first | done | with_reducible rfl | (exact (IntWalk.i64_in _ (by omega)).symm) | (intro hh; omega) | skip)
    try simp only [Act.put, List.setIfInBounds_toArray, List.set_cons_zero, List.set_cons_succ]
    refine wpAnyH_take (i := 39) (oi := { dst := some 80, op := Go.Op.move (Go.Operand.tmp 12), type := 3, pos := "law.go:31", after := #[{ on := 38, ground := Go.Ground.guard }], guard := some (38, false) }) (v := ?vb39) rfl (by kernel_rfl) (by kernel_rfl) (by kernel_rfl) (fun _ _ _ h => h) (Or.inl ⟨by rfl, ?yb39⟩) HS ?rb39
    case yb39 => (intro wx hSw; skip; go_simp; first | done | with_reducible rfl | (exact (IntWalk.i64_in _ (by omega)).symm) | (intro hh; omega) | skip)
    try simp only [Act.put, List.setIfInBounds_toArray, List.set_cons_zero, List.set_cons_succ]
    refine wpAnyH_take (i := 40) (oi := { dst := some 81, op := Go.Op.move (Go.Operand.tmp 10), type := 3, pos := "law.go:31", after := #[{ on := 38, ground := Go.Ground.guard }], guard := some (38, false) }) (v := ?vb40) rfl (by kernel_rfl) (by kernel_rfl) (by kernel_rfl) (fun _ _ _ h => h) (Or.inl ⟨by rfl, ?yb40⟩) HS ?rb40
    case yb40 => (intro wx hSw; skip; go_simp; first | done | with_reducible rfl | (exact (IntWalk.i64_in _ (by omega)).symm) | (intro hh; omega) | skip)
    try simp only [Act.put, List.setIfInBounds_toArray, List.set_cons_zero, List.set_cons_succ]
    refine wpAnyH_take (i := 41) (oi := { dst := some 82, op := Go.Op.move (Go.Operand.tmp 9), type := 3, pos := "law.go:31", after := #[{ on := 38, ground := Go.Ground.guard }], guard := some (38, false) }) (v := ?vb41) rfl (by kernel_rfl) (by kernel_rfl) (by kernel_rfl) (fun _ _ _ h => h) (Or.inl ⟨by rfl, ?yb41⟩) HS ?rb41
    case yb41 => (intro wx hSw; skip; go_simp; first | done | with_reducible rfl | (exact (IntWalk.i64_in _ (by omega)).symm) | (intro hh; omega) | skip)
    try simp only [Act.put, List.setIfInBounds_toArray, List.set_cons_zero, List.set_cons_succ]
    refine wpAnyH_take (i := 42) (oi := { dst := some 83, op := Go.Op.binOp Go.BinOp.sub 3 (Go.Operand.tmp 81) (Go.Operand.tmp 82) 3, type := 3, pos := "law.go:31", after := #[{ on := 40, ground := Go.Ground.data }, { on := 41, ground := Go.Ground.data }, { on := 38, ground := Go.Ground.guard }], guard := some (38, false) }) (v := ?vb42) rfl (by kernel_rfl) (by kernel_rfl) (by kernel_rfl) (fun _ _ _ h => h) (Or.inl ⟨by rfl, ?yb42⟩) HS ?rb42
    case yb42 => (intro wx hSw; skip; go_simp; first | done | with_reducible rfl | (exact (IntWalk.i64_in _ (by omega)).symm) | (intro hh; omega) | skip)
    try simp only [Act.put, List.setIfInBounds_toArray, List.set_cons_zero, List.set_cons_succ]
    refine wpAnyH_take (i := 43) (oi := { dst := some 84, op := Go.Op.binOp Go.BinOp.neq 3 (Go.Operand.tmp 80) (Go.Operand.tmp 83) 3, type := 4, pos := "law.go:31", after := #[{ on := 39, ground := Go.Ground.data }, { on := 42, ground := Go.Ground.data }, { on := 38, ground := Go.Ground.guard }], guard := some (38, false) }) (v := .bool false) rfl (by kernel_rfl) (by kernel_rfl) (by kernel_rfl) (fun _ _ _ h => h) (Or.inl ⟨by rfl, ?yb43⟩) HS ?rb43
    case yb43 => (intro wx hSw; skip; go_simp; first | done | with_reducible rfl | (exact (IntWalk.i64_in _ (by omega)).symm) | (intro hh; omega) | skip)
    try simp only [Act.put, List.setIfInBounds_toArray, List.set_cons_zero, List.set_cons_succ]
    refine wpAnyH_take (i := 44) (oi := { dst := some 85, op := Go.Op.pick (Go.Operand.tmp 79) (Go.Operand.const (Go.Value.bool true)) (Go.Operand.tmp 84), type := 4, pos := "law.go:31", after := #[{ on := 38, ground := Go.Ground.data }, { on := 43, ground := Go.Ground.data }], guard := none }) (v := ?vb44) rfl (by kernel_rfl) (by kernel_rfl) (by kernel_rfl) (fun _ _ _ h => h) (Or.inl ⟨by rfl, ?yb44⟩) HS ?rb44
    case yb44 => (intro wx hSw; skip; go_simp; first | done | with_reducible rfl | (exact (IntWalk.i64_in _ (by omega)).symm) | (intro hh; omega) | skip)
    try simp only [Act.put, List.setIfInBounds_toArray, List.set_cons_zero, List.set_cons_succ]
    refine wpAnyH_take (i := 45) (oi := { dst := some 86, op := Go.Op.move (Go.Operand.tmp 85), type := 4, pos := "law.go:31", after := #[{ on := 44, ground := Go.Ground.data }, { on := 38, ground := Go.Ground.chain }], guard := none }) (v := ?vb45) rfl (by kernel_rfl) (by kernel_rfl) (by kernel_rfl) (fun _ _ _ h => h) (Or.inl ⟨by rfl, ?yb45⟩) HS ?rb45
    case yb45 => (intro wx hSw; skip; go_simp; first | done | with_reducible rfl | (exact (IntWalk.i64_in _ (by omega)).symm) | (intro hh; omega) | skip)
    try simp only [Act.put, List.setIfInBounds_toArray, List.set_cons_zero, List.set_cons_succ]
    refine wpAnyH_take (i := 46) (oi := { dst := some 87, op := Go.Op.load 22 (Go.Operand.tmp 2), type := 22, pos := "law.go:31", after := #[{ on := 45, ground := Go.Ground.guard }], guard := some (45, false) }) (v := ?vb46) rfl (by kernel_rfl) (by kernel_rfl) (by kernel_rfl) (fun _ _ _ h => h) (Or.inl ⟨by rfl, ?yb46⟩) HS ?rb46
    case yb46 => (intro wx hSw; obtain ⟨⟨p0, p1, p2, p3, p4⟩, -⟩ := row5 (hp_on' HW4.out.b5 hSw); have hb6 := hp_on' HW4.out.b6 hSw; unfold rcs at hb6; obtain ⟨⟨e0, e1, e2, e3, e4, e5⟩, -⟩ := cells6 hb6; clear hb6; have y0 := (cell1 (hp_on' G4.out.lb hSw)).1; go_simp; first | done | with_reducible rfl | (exact (IntWalk.i64_in _ (by omega)).symm) | (intro hh; omega) | skip)
    try simp only [Act.put, List.setIfInBounds_toArray, List.set_cons_zero, List.set_cons_succ]
    refine wpAnyH_take (i := 48) (oi := { dst := some 89, op := Go.Op.fieldAddr 30 (Go.Operand.tmp 6) 3, type := 0, pos := "law.go:31", after := #[{ on := 45, ground := Go.Ground.guard }], guard := some (45, false) }) (v := ?vb48) rfl (by kernel_rfl) (by kernel_rfl) (by kernel_rfl) (fun _ _ _ h => h) (Or.inl ⟨by rfl, ?yb48⟩) HS ?rb48
    case yb48 => (intro wx hSw; skip; go_simp; first | done | with_reducible rfl | (exact (IntWalk.i64_in _ (by omega)).symm) | (intro hh; omega) | skip)
    try simp only [Act.put, List.setIfInBounds_toArray, List.set_cons_zero, List.set_cons_succ]
    refine wpAnyH_take (i := 49) (oi := { dst := some 90, op := Go.Op.load 3 (Go.Operand.tmp 89), type := 3, pos := "law.go:31", after := #[{ on := 48, ground := Go.Ground.data }, { on := 45, ground := Go.Ground.guard }], guard := some (45, false) }) (v := ?vb49) rfl (by kernel_rfl) (by kernel_rfl) (by kernel_rfl) (fun _ _ _ h => h) (Or.inl ⟨by rfl, ?yb49⟩) HS ?rb49
    case yb49 => (intro wx hSw; obtain ⟨⟨p0, p1, p2, p3, p4⟩, -⟩ := row5 (hp_on' HW4.out.b5 hSw); have hb6 := hp_on' HW4.out.b6 hSw; unfold rcs at hb6; obtain ⟨⟨e0, e1, e2, e3, e4, e5⟩, -⟩ := cells6 hb6; clear hb6; have y0 := (cell1 (hp_on' G4.out.lb hSw)).1; go_simp; first | done | with_reducible rfl | (exact (IntWalk.i64_in _ (by omega)).symm) | (intro hh; omega) | skip)
    try simp only [Act.put, List.setIfInBounds_toArray, List.set_cons_zero, List.set_cons_succ]
    refine wpAnyH_ready (rs := [47]) (by kernel_rfl) (by simp) ?_
    refine AllReadyH.cons (o := { dst := some 88, op := Go.Op.call { callee := Go.Callee.value (Go.Operand.func 12), args := #[Go.Operand.tmp 87], argTypes := #[22] }, type := 3, pos := "law.go:31", after := #[{ on := 46, ground := Go.Ground.data }, { on := 45, ground := Go.Ground.chain }, { on := 45, ground := Go.Ground.guard }], guard := some (45, false) }) rfl (fun K hK => ?_) AllReadyH.nil
    go_simp
    (refine (cC.out _ (G4.out.ra.below HS)).mono ?_; rintro e wn ⟨rfl, hbel⟩)
    refine hK.out _ _ (HS.trans (hbel.mono HS.size)) (fun HS => ?_)
    try simp only [Act.put, List.setIfInBounds_toArray, List.set_cons_zero, List.set_cons_succ]
    refine wpAnyH_take (i := 50) (oi := { dst := some 91, op := Go.Op.binOp Go.BinOp.neq 3 (Go.Operand.tmp 88) (Go.Operand.tmp 90) 3, type := 4, pos := "law.go:31", after := #[{ on := 47, ground := Go.Ground.data }, { on := 49, ground := Go.Ground.data }, { on := 45, ground := Go.Ground.guard }], guard := some (45, false) }) (v := .bool false) rfl (by kernel_rfl) (by kernel_rfl) (by kernel_rfl) (fun _ _ _ h => h) (Or.inl ⟨by rfl, ?yb50⟩) HS ?rb50
    case yb50 => (intro wx hSw; skip; go_simp; first | done | with_reducible rfl | (exact (IntWalk.i64_in _ (by omega)).symm) | (intro hh; omega) | skip)
    try simp only [Act.put, List.setIfInBounds_toArray, List.set_cons_zero, List.set_cons_succ]
    refine wpAnyH_take (i := 51) (oi := { dst := some 92, op := Go.Op.pick (Go.Operand.tmp 86) (Go.Operand.const (Go.Value.bool true)) (Go.Operand.tmp 91), type := 4, pos := "law.go:31", after := #[{ on := 45, ground := Go.Ground.data }, { on := 50, ground := Go.Ground.data }], guard := none }) (v := ?vb51) rfl (by kernel_rfl) (by kernel_rfl) (by kernel_rfl) (fun _ _ _ h => h) (Or.inl ⟨by rfl, ?yb51⟩) HS ?rb51
    case yb51 => (intro wx hSw; skip; go_simp; first | done | with_reducible rfl | (exact (IntWalk.i64_in _ (by omega)).symm) | (intro hh; omega) | skip)
    try simp only [Act.put, List.setIfInBounds_toArray, List.set_cons_zero, List.set_cons_succ]
    refine wpAnyH_done (by kernel_rfl) ?_ _
    refine NoPanic.normal ?_
    go_wp2
    go_meet
    case rel => exact ⟨rfl, HS⟩
  -- R9 end
  case rest =>
  obtain ⟨rfl, hb5⟩ := hcut
  have G5 := Lib.hid (G4.out.on hb5)
  have HW5 := Lib.hid (HW4.out.on hb5)
  clear q1 q2 q3 hb5 hst1 hst2 G4 HW4
  go_upto_region 11 with fail
  obtain ⟨h, hcf, hix⟩ := four_head z.h AL.out.pf.h4
  have q4 : ((FloatKind.f64.format.order q.hd.re h.re == some .eq) && (FloatKind.f64.format.order q.hd.im h.im == some .eq)) = true := (ceqW_of (b := h) AL.out.pf.hd hcf).trans (by simp)
  obtain ⟨⟨p0, p1, p2, p3, p4⟩, -⟩ := row5 HW5.out.b5
  have hb6 := HW5.out.b6
  unfold rcs at hb6
  obtain ⟨⟨e0, e1, e2, e3, e4, e5⟩, -⟩ := cells6 hb6
  clear hb6 hcf
  go_cut [99] from 15 (fun s99 wx => s99 = .bool false ∧ Below wc.heap.size wc wx)
  case first =>
    go_quiet (fail)
    go_wp2
    go_meet
    case rel => exact ⟨rfl, drewN_below _ _⟩
  case rest =>
  obtain ⟨rfl, hb6⟩ := hcut
  have G6 := Lib.hid (G5.out.on hb6)
  have HW6 := Lib.hid (HW5.out.on hb6)
  clear q4 hix p0 p1 p2 p3 p4 e0 e1 e2 e3 e4 e5 G5 HW5 hb6
  have hbn : Below wc.heap.size wc (wc.alloc (.cells #[.int .i64 0] 3)) := (Below.refl _ wc).alloc (Nat.le_refl _) _
  have GN := Lib.hid (G6.out.on hbn)
  have HWN := Lib.hid (HW6.out.on hbn)
  have NB : Hid ((wc.alloc (.cells #[.int .i64 0] 3)).heap[wc.heap.size]? = some (.cells #[.int .i64 0] 3 (0, 0))) := Lib.hid (heap_alloc_last wc (.cells #[.int .i64 0] 3 (0, 0)))
  have hnz : w.heap.size + 2 < wc.heap.size := (Array.getElem?_eq_some_iff.1 G6.out.rb).1
  have hnz0 : w.heap.size < wc.heap.size := by omega
  have FK := Lib.hid (And.intro (Array.getElem?_eq_some_iff.1 HW6.out.b5).1 (Array.getElem?_eq_some_iff.1 HW6.out.b6).1)
  have NX := Lib.hid (And.intro (irow_ne HW6.out.rx (Nat.le_refl _)) (irow_ne HW6.out.ry (Nat.le_refl _)))
  have y0 := (cell1 G6.out.lb).1
  clear hbn G6 HW6
  go_wp2_with (first
    | (go_at_call 13; (with_reducible refine (cP.out _ GN.out.ra).mono ?_); rintro e w7 ⟨A2, c2, b7, rfl, hbx, hr2, hf2, hbb, hb7⟩; have G7 := Lib.hid (GN.out.on hb7); have HW7 := Lib.hid (HWN.out.on hb7); have N7 := Lib.hid (hp_on' NB.out hb7); have PL := Lib.hid (And.intro hbx (And.intro hr2 (And.intro hf2 hbb))); have hs7 := hb7.size; clear hbx hr2 hf2 hbb hb7 GN HWN NB))
  refine (wpIn_wide (n := n)).1 ?_
  have hk13 : wc.heap.size < w7.heap.size := (Array.getElem?_eq_some_iff.1 N7.out).1
  have hr7 : w.heap.size + 2 < w7.heap.size := by omega
  have hbx := PL.out.1
  have HFX := PL.out.2.2.1
  have hwz : (wc.alloc (.cells #[.int .i64 0] 3)).heap.size = wc.heap.size + 1 := by simp
  rw [hwz] at HFX
  refine range_v rfl h1 (gf := 20) (lb := #[.pointer (some ⟨b7, 0, none⟩)]) rfl trivial (enters_of Try.func20 (by kernel_rfl) rfl)
    (w0 := w7) (encs := encC) (L := pwalk begW 0 l)
    (places_seq (n - 1) (by omega) (S := [wc.heap.size, w.heap.size + 2]) (by omega) hbx PL.out.2.1
      (fun h0 a ha => by have := HFX a ha; simp; omega) (by simp; omega)) KeepsA.t (fun W l o o' _ h2 h3 _ => keepsA_b W l o o' h2 h3) (Below.refl _ _) (fun _ => rfl)
    (GoI w w7 wc.heap.size) (fun cd _ X => GoX w w7 cd X) (goI_free hk13 hr7) (goX_free hr7)
    ⟨N7.out, G7.out.rb, fun _ _ _ _ => rfl, G7.out.below, Nat.le_refl _⟩
    (fun x a' _ => a' = { tmps := #[.slice A l.length c, .int .u8 m, .pointer (some ⟨w.heap.size, 0, none⟩), .pointer (some ⟨w.heap.size + 1, 0, none⟩), .pointer (some ⟨w.heap.size + 1 + 1, 0, none⟩), .pointer (some ⟨k5, 0, none⟩), .pointer (some ⟨k6, 0, none⟩), .int .i64 z.lx, .int .i64 z.hx, .int .i64 z.ly, .int .i64 z.hy, .int .i64 (z.hx - z.lx), .int .i64 (z.hy - z.ly), .pointer (some ⟨wc.heap.size, 0, none⟩), .complex .f64 x.pos.re x.pos.im, u15, u16, u17, u18, u19, u20, u21, u22, u23, u24, u25, u26, u27, u28, u29, u30, u31, u32, u33, u34, u35, u36, u37, u38, u39, u40, u41, u42, u43, u44, u45, u46, u47, u48, u49, u50, u51, u52, u53, u54, u55, u56, u57, u58, u59, u60, u61, u62, u63, u64, u65, u66, u67, u68, u69, u70, u71, u72, u73, u74, u75, u76, u77, u78, u79, u80, u81, u82, u83, u84, u85, u86, u87, u88, u89, u90, u91, u92, u93, u94, u95, u96, u97, u98, .bool false, .slice A l.length c, .func (.func 20) #[] #[.pointer (some ⟨b7, 0, none⟩)], .complex .f64 x.pos.re x.pos.im, u103, u104, u105, u106, u107, u108, u109, u110, u111, u112, u113, u114, u115, u116, u117, u118, u119, u120, u121, u122, u123, u124, u125, u126, u127, u128, u129, u130, u131], defers := [] })
    (fun x a' => fun s A C row hs hg hr => hs) ?assign ?body ?done ?stop
  case assign =>
    rintro lp2 pre x X K i _ hK
    dsimp only [encC]
    gi_wp2
    exact hK _ X i (keepsFrom_refl _ _) (keepsA_refl _ _ _) rfl
  case body =>
    rintro lp2 pre x a' X ⟨i1, i2, i3, i4, i5⟩ hpre rfl
    obtain ⟨hk0, hxk⟩ := pre_at hpre
    have hk : pre.length < l.length := by rwa [pwalk_len] at hk0
    have hn1 : 1 ≤ n - 1 - 1 := by omega
    obtain ⟨fk5, fk6⟩ := FK.out
    obtain ⟨r5, r6, rx, ry⟩ := FR.out
    obtain ⟨nx, ny⟩ := NX.out
    have lX := AL.out.lx
    have lY := AL.out.ly
    have rX := irow_heap HW7.out.rx i5 (fun a e h0 hlt => i3 _ hlt (nx a e h0) (by have := rx a e; omega))
    have rY := irow_heap HW7.out.ry i5 (fun a e h0 hlt => i3 _ hlt (ny a e h0) (by have := ry a e; omega))
    obtain ⟨ax, eax, _, hax⟩ := rX (by rw [lX]; omega)
    obtain ⟨ay, eay, _, hay⟩ := rY (by rw [lY]; omega)
    have cx1 := hax pre.length (by rw [lX]; exact hk)
    have cy1 := hay pre.length (by rw [lY]; exact hk)
    have hcf := AL.out.at_ pre.length hk0 (by rw [lX]; exact hk) (by rw [lY]; exact hk)
    rw [hxk] at hcf
    have bX := AL.out.bx _ (List.getElem_mem (show pre.length < ((zwalk begZ true 0 l).map (·.x)).length by rw [lX]; exact hk))
    have bY := AL.out.by_ _ (List.getElem_mem (show pre.length < ((zwalk begZ true 0 l).map (·.y)).length by rw [lY]; exact hk))
    subst eax eay
    generalize ((zwalk begZ true 0 l).map (·.x))[pre.length]'(by rw [lX]; exact hk) = xk at *
    generalize ((zwalk begZ true 0 l).map (·.y))[pre.length]'(by rw [lY]; exact hk) = yk at *
    have q5 := place_eq hcf (by omega) (by omega)
    have hl7 := (i3 w.heap.size (by omega) (by omega) (by omega)).trans G7.out.lb
    have hm7 := (i3 (w.heap.size + 1) (by omega) (by omega) (by omega)).trans G7.out.mb
    have hb6 := (i3 k6 (by omega) (by omega) (by omega)).trans HW7.out.b6
    unfold rcs at hb6
    obtain ⟨⟨e0, e1, e2, e3, e4, e5⟩, -⟩ := cells6 hb6
    have y0 := (cell1 hl7).1
    have y1 := (cell1 hm7).1
    obtain ⟨z0, g0⟩ := cell1 i1
    obtain ⟨z1, g1⟩ := cell1 i2
    have HI1 := Lib.hid i1
    have HI2 := Lib.hid i2
    have HI3 := Lib.hid i3
    have HI4 := Lib.hid i4
    have HLX := Lib.hid (And.intro lX lY)
    have hlen : (pre ++ [x]).length = pre.length + 1 := by simp
    have HLN := Lib.hid hlen
    have hki : (0 : Int) ≤ (pre.length : Int) := by omega
    have hkl : (pre.length : Int) < (l.length : Int) := by omega
    have hge : decide (l.length ≤ pre.length) = false := decide_eq_false (by omega)
    have hgeI : decide ((l.length : Int) ≤ (pre.length : Int)) = false := decide_eq_false (by omega)
    have hcl : decide (pre.length < l.length) = true := decide_eq_true hk
    have hki2 : ((pre.length : Int)).toNat = pre.length := by omega
    clear hxk hk0 hpre hcf hax hay rX rY i1 i2 i3 i4 hl7 hm7 hb6 lX lY bX bY hlen nx ny rx ry
    generalize pre.length = k at *
    gi_wp2
    refine wpIn_region_quiet_round (by kernel_rfl) (by kernel_rfl) (by kernel_rfl) ?_
    repeat (go_big_quiet_step ((go_at_call 11; exact Calls.quiet_of_same (place_any _ _ _))))
    refine wpQuiet_nil ?_
    intro _ hw'
    obtain ⟨nq, hw''⟩ := hw'
    subst hw''
    clear q5 hge hgeI hcl hki2 cx1 cy1 e0 e1 e2 e3 e4 e5
    by_cases hkm : (k : Int) + 1 = (m : Int)
    · have hkm1 : ((k : Int) + 1 == (m : Int)) = true := by simpa using hkm
      have HKM := Lib.hid hkm
      clear hkm
      gi_wp2
      exact ⟨keepsFrom_set (keepsFrom_set (keepsFrom_below (drewN_below X nq)) _ _ hk13) _ _ hr7, rfl, set1_row (set_other (w := X.drewN nq) HI2.out (by omega) _) _,
        ((HI4.out.trans ((drewN_below X nq).mono HI4.out.size)).setCell (p := ⟨wc.heap.size, 0, none⟩) (by simp; omega) _).setCell (p := ⟨w.heap.size + 1 + 1, 0, none⟩) (by simp; omega) _, by simp; omega⟩
    · have hkm1 : ((k : Int) + 1 == (m : Int)) = false := by simpa using hkm
      have HKM := Lib.hid hkm
      clear hkm
      gi_wp2
      refine ⟨keepsFrom_set (keepsFrom_below (drewN_below X nq)) _ _ hk13, keepsA_set (KeepsA.of_below (drewN_below X nq)) _ _ (by simp), ?_, set_other (w := X.drewN nq) HI2.out (by omega) _, fun j hj h1 h2 => (Below.heap_setCell (X.drewN nq) ⟨wc.heap.size, 0, none⟩ _ j h1).trans (HI3.out j hj h1 h2),
        (HI4.out.trans ((drewN_below X nq).mono HI4.out.size)).setCell (p := ⟨wc.heap.size, 0, none⟩) (by simp; omega) _, by simp; omega⟩
      have h := set1_row (w := X.drewN nq) HI1.out (.int .i64 ((k : Int) + 1))
      rw [HLN.out, Int.natCast_add]
      exact h
  case done =>
    rintro D X hD ⟨i1, i2, i3, i4, i5⟩ hK
    rw [pwalk_len] at i1
    have y0 := (cell1 ((i3 w.heap.size (by omega) (by omega) (by omega)).trans G7.out.lb)).1
    obtain ⟨z0, g0⟩ := cell1 i1
    obtain ⟨z1, g1⟩ := cell1 i2
    have HI2 := Lib.hid i2
    have HI4 := Lib.hid i4
    have HK := Lib.hid hK
    clear i1 i2 i3 i4 hK
    go_wp2
    have hX : (X.setCell ⟨w.heap.size + 1 + 1, 0, none⟩ (.bool true)).heap[D]? = some (.deferred (some [])) := set_other HK.out (by omega) _
    exact ret_goes rfl hX (cell1 (set1_row HI2.out (.bool true))).1 ⟨rfl, (HI4.out.setCell (p := ⟨w.heap.size + 1 + 1, 0, none⟩) (by simp; omega) _).trans (belowK_b (w := w) (Nat.le_refl _) _ D _ _ (by omega) hX rfl rfl)⟩
  case stop =>
    rintro D cd pre X hD hpre ⟨rfl, i2, i4, i5⟩ hK
    gi_wp2
    exact ret_goes rfl hK (cell1 i2).1 ⟨rfl, i4.trans (belowK_b (w := w) (Nat.le_refl _) _ D _ _ (by omega) hK rfl rfl)⟩
theorem goes_walk (A : Option Addr) (c : Nat) (l : List Trd) (m : Nat) (hm : m < 256) (hl : l.length ≤ 100) (w : World) (RA : TRow w A l) (hA : A = none → l.length = 0 ∧ c = 0) (hok : ∀ p ∈ l, p.ok) :
    Calls Try.prog 3 #[.slice A l.length c, .int .u8 m] w fun e w' => e = .returned (.bool true) ∧ Below w.heap.size w w' :=
  callsIn_wide.1 (goes_in 5 (by omega) A c l m hm hl w RA hA hok)
end Go.Proofs.Ytligdamibjclnaa.Wk
