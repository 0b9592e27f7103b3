/-
  The prices, the sizes of trades (columns), walked. Conditions: as each theorem states.
-/
import Derived.Test.YtfgahmkfhlbogaaCaJ
namespace Go.Proofs.Ytfgahmkfhlbogaa.Ca
open Go.RowKit Go.Shelf
open Go.Proofs.Ytfgahmkfhlbogaa Go.Proofs.Ytfgahmkfhlbogaa.Hx Go.Proofs.Ytfgahmkfhlbogaa.Rf

def jC (l : List Int) : List Value := l.map fun n => Value.int .i64 n
theorem jC_snoc (l : List Int) (n : Int) : jC (l ++ [n]) = jC l ++ [.int .i64 n] := by simp [jC]
theorem nrow_at {w : World} {B : Nat} {t : TypeId} {v : Value} {l : List Int} (h : w.ownsRow B t 1 v l.length (jC l)) :
    ∃ A c, v = .slice A l.length c ∧ NRow w A l ∧ (A = none → l.length = 0 ∧ c = 0) ∧ l.length ≤ c ∧ c ≤ maxLen := by
  have hc := fun g hg => h.cells (g := g) hg
  rcases h.2 with ⟨rfl, h0⟩ | ⟨g, cap, cur, rfl, hb, hg, h3, h4, _⟩
  · exact ⟨none, 0, by rw [h0], fun h1 => by omega, fun _ => ⟨h0, rfl⟩, by omega, by unfold maxLen; omega⟩
  · refine ⟨some ⟨g, 0, none⟩, cap, rfl, fun _ => ⟨_, rfl, hp_lt hg, fun i hi => ?_⟩, fun e => (by cases e), h3, h4⟩
    exact hc g rfl i (.int .i64 l[i]) (by simp [jC, hi])
structure CoS (w : World) (vp vs : Value) (lp ls : List Int) (W : World) : Prop where
  op : W.ownsRow w.heap.size 2 1 vp lp.length (jC lp)
  os : W.ownsRow w.heap.size 2 1 vs ls.length (jC ls)
  apart : ∀ k, vp.ownBlock = some k → vs.ownBlock ≠ some k
  below : Below w.heap.size w W
section
variable {w W W2 : World} {vp vs v2 : Value} {lp ls l2 : List Int}
theorem CoS.on (h : CoS w vp vs lp ls W) (hb : Below W.heap.size W W2) : CoS w vp vs lp ls W2 := ⟨own_on h.op hb, own_on h.os hb, h.apart, below_on h.below h.below.size hb⟩
theorem CoS.putP (h : CoS w vp vs lp ls W) (hg : W.grownBy W2 vp.ownBlock) (ho : W2.ownsRow w.heap.size 2 1 v2 l2.length (jC l2)) (hw : ∀ k, v2.ownBlock = some k → vp.ownBlock = some k ∨ W.heap.size ≤ k) : CoS w v2 vs l2 ls W2 := by
  have hs : W2.ownsRow w.heap.size 2 1 vs ls.length (jC ls) := by
    cases hv : vp.ownBlock with
    | none => rw [hv] at hg; exact h.os.kept hg (Classical.em _)
    | some k => rw [hv] at hg; exact h.os.kept hg (.inr fun e => h.apart k hv e)
  refine ⟨ho, hs, fun k hk e => ?_, h.below.trans ⟨hg.os, hg.tape, hg.output, hg.size, fun k hk => hg.block k (Nat.lt_of_lt_of_le hk h.below.size) (fun e => by have := (h.op.lt _ e.symm).1; omega)⟩⟩
  rcases hw k hk with e2 | e2
  · exact h.apart k e2 e
  · have := (h.os.lt k e).2; omega
theorem CoS.putS (h : CoS w vp vs lp ls W) (hg : W.grownBy W2 vs.ownBlock) (ho : W2.ownsRow w.heap.size 2 1 v2 l2.length (jC l2)) (hw : ∀ k, v2.ownBlock = some k → vs.ownBlock = some k ∨ W.heap.size ≤ k) : CoS w vp v2 lp l2 W2 := by
  have hp : W2.ownsRow w.heap.size 2 1 vp lp.length (jC lp) := by
    cases hv : vs.ownBlock with
    | none => rw [hv] at hg; exact h.op.kept hg (Classical.em _)
    | some k => rw [hv] at hg; exact h.op.kept hg (.inr fun e => h.apart k e hv)
  refine ⟨hp, ho, fun k hk e => ?_, h.below.trans ⟨hg.os, hg.tape, hg.output, hg.size, fun k hk => hg.block k (Nat.lt_of_lt_of_le hk h.below.size) (fun e => by have := (h.os.lt _ e.symm).1; omega)⟩⟩
  rcases hw k e with e2 | e2
  · exact h.apart k hk e2
  · have := (h.op.lt k hk).2; omega
end
section
variable {ops : Array Oper} {o : Oper} {a : Act} {W : World} {K : Act → World → Prop} {Q : Exit → Act → World → Prop} {E : Prop}
theorem st_new1 {y : Nat} {x0 : Int} (hg : o.guard = none) (hop : o.op = .buildSlice 24 1 #[(0, .tmp y)]) (hx : (a.tmps[y]?).getD undef = .int .i64 x0)
    (h : ∀ b wn, W.heap.size ≤ b → wn.heap[b]? = some (.cells #[.int .i64 x0] 2 (0, 0)) → Below W.heap.size W wn → K (a.put o.dst (.slice (some ⟨b, 0, none⟩) 1 1)) wn) :
    if Region.wanted o (yielded ops a.tmps) = true then Oper.wp Try.prog o a W K Q else E := by
  have hw : Region.wanted o (yielded ops a.tmps) = true := by simp [Region.wanted, hg]
  rw [if_pos hw]
  unfold Oper.wp
  simp [execOp, hop, go_sem, hx]
  exact h _ _ (Nat.le_refl _) (heap_alloc_last W _) ((Below.refl _ W).alloc (Nat.le_refl _) _)
end
theorem infoI64 : (Try.prog.info? 2).map (fun i => (i.zero, i.size, i.bytes)) = some (some (.int .i64 0), 1, 8) := by kernel_rfl
def CoJ (w : World) (l : List Trd) (p s i : Value) (wr : World) : Prop := ∃ k : Nat, k ≤ l.length ∧ i = .int .i64 k ∧ CoS w p s ((l.take k).map (·.price)) ((l.take k).map (·.size)) wr
set_option maxHeartbeats 2000000 in
set_option maxRecDepth 100000 in
theorem columns_any (A : Option Addr) (c : Nat) (l : List Trd) (hl : l.length ≤ 1000) (w : World) (R : TRow w A l) :
    Calls Try.prog 6 #[.slice A l.length c] w fun e w' => ∃ vp vs, e = .returned (.tuple #[vp, vs]) ∧ CoS w vp vs (l.map (·.price)) (l.map (·.size)) w' := by
  have HR := Lib.hid R
  obtain ⟨i0, hi, hz0, hz1, hz2⟩ := info_parts infoI64
  have HI := Lib.hid (And.intro hi (And.intro hz0 (And.intro hz1 hz2)))
  have hlc : (l.length : Int) ≤ 1000 := by omega
  clear R hi hz0 hz1 hz2
  go_enter Try.func6, Try.ntmps6
  go_wp2
  go_loopw [4, 5, 10] (fun p s i wr => CoJ w l p s i wr) (fun _ _ i _ => l.length - (intOf i).toNat)
  case atStart => exact ⟨0, by omega, rfl, World.ownsRow_nil _ _ _ _, World.ownsRow_nil _ _ _ _, fun k h => by simp [Value.ownBlock] at h, Below.refl _ w⟩
  case round =>
    obtain ⟨k, hk, rfl, hC⟩ := hrel
    by_cases h1 : k < l.length
    · obtain ⟨a, rfl, hab, hcl⟩ := HR.out (by omega)
      have x := hcl k h1
      have hbl : (a.add (k * 4)).block < w.heap.size := by rw [block_add]; exact hab
      have HTP : Hid ((l.take (k + 1)).map (·.price) = (l.take k).map (·.price) ++ [l[k].price]) := by rw [Hid, List.take_succ_eq_append_getElem h1, List.map_append]; rfl
      have HTS : Hid ((l.take (k + 1)).map (·.size) = (l.take k).map (·.size) ++ [l[k].size]) := by rw [Hid, List.take_succ_eq_append_getElem h1, List.map_append]; rfl
      have HL : Hid (((l.take k).map (·.price)).length ≤ 1000 ∧ ((l.take k).map (·.size)).length ≤ 1000) := by rw [Hid]; simp; omega
      clear hcl
      generalize l[k] = y at *
      generalize (l.take k).map (·.price) = lp at *
      generalize (l.take k).map (·.size) = ls at *
      obtain ⟨mk, tk', pr, sz⟩ := y
      obtain ⟨c0, c1, c2, c3⟩ := x
      have hb := hC.below
      have x0 := (hb.cell (p := a.add (k * 4)) hbl).trans c0
      have x1 : wr.cell? ⟨(a.add (k * 4)).block, (a.add (k * 4)).off + 1, none⟩ = some (.int .u64 tk') := (hb.cell (p := (a.add (k * 4)).add 1) (by rw [block_add]; exact hbl)).trans c1
      have x2 : wr.cell? ⟨(a.add (k * 4)).block, (a.add (k * 4)).off + 2, none⟩ = some (.int .i64 pr) := (hb.cell (p := (a.add (k * 4)).add 2) (by rw [block_add]; exact hbl)).trans c2
      have x3 : wr.cell? ⟨(a.add (k * 4)).block, (a.add (k * 4)).off + 3, none⟩ = some (.int .i64 sz) := (hb.cell (p := (a.add (k * 4)).add 3) (by rw [block_add]; exact hbl)).trans c3
      have HLT := Lib.hid (And.intro (fun k (e : u4.ownBlock = some k) => (hC.op.lt k e).2) (fun k (e : u5.ownBlock = some k) => (hC.os.lt k e).2))
      have C0 := Lib.hid hC
      clear c0 c1 c2 c3 hC hb
      go_upto_region 5 with fail
      have hbw : Below wr.heap.size wr (wr.alloc (.cells #[.int .u64 mk, .int .u64 tk', .int .i64 pr, .int .i64 sz] 49)) := (Below.refl _ wr).alloc (Nat.le_refl _) _
      obtain ⟨w5, hw5⟩ : ∃ W, W = wr.alloc (.cells #[.int .u64 mk, .int .u64 tk', .int .i64 pr, .int .i64 sz] 49) := ⟨_, rfl⟩
      have HT5 : Hid (w5.heap[wr.heap.size]? = some (.cells #[.int .u64 mk, .int .u64 tk', .int .i64 pr, .int .i64 sz] 49 (0, 0))) := by rw [Hid, hw5]; exact heap_alloc_last wr _
      have C : Hid (CoS w u4 u5 lp ls w5.drew) := Lib.hid ((C0.out.on (by rw [hw5]; exact hbw)).on (drew_below _))
      rw [← hw5]
      clear hw5 hbw x0 x1 x2 x3 C0
      refine wp_region_noPanic ?_
      refine wp_region_held_drew (S := (fun wx => wx.heap[wr.heap.size]? = some (.cells #[.int .u64 mk, .int .u64 tk', .int .i64 pr, .int .i64 sz] 49 (0, 0)))) (by kernel_rfl) (HT5.out) (fun HS => ?_)
      refine wpAnyH_take (S := (fun wx => wx.heap[wr.heap.size]? = some (.cells #[.int .u64 mk, .int .u64 tk', .int .i64 pr, .int .i64 sz] 49 (0, 0)))) (i := 0) (oi := { dst := some 14, op := Go.Op.move (Go.Operand.tmp 4), type := 24, pos := "law.go:34", after := #[], guard := none }) (v := ?vd1) rfl (by kernel_rfl) (by kernel_rfl) (by kernel_rfl) (fun _ _ _ h => h) (Or.inl ⟨by rfl, ?yd1⟩) HS ?rd1
      case yd1 => (intro wx hSw; skip; go_simp; first | done | with_reducible rfl | (intro hh; omega) | skip)
      try simp only [Act.put, List.setIfInBounds_toArray, List.set_cons_zero, List.set_cons_succ]
      refine wpAnyH_take (S := (fun wx => wx.heap[wr.heap.size]? = some (.cells #[.int .u64 mk, .int .u64 tk', .int .i64 pr, .int .i64 sz] 49 (0, 0)))) (i := 1) (oi := { dst := some 15, op := Go.Op.fieldAddr 49 (Go.Operand.tmp 7) 2, type := 0, pos := "law.go:34", after := #[], guard := none }) (v := ?vd2) rfl (by kernel_rfl) (by kernel_rfl) (by kernel_rfl) (fun _ _ _ h => h) (Or.inl ⟨by rfl, ?yd2⟩) HS ?rd2
      case yd2 => (intro wx hSw; skip; go_simp; first | done | with_reducible rfl | (intro hh; omega) | skip)
      try simp only [Act.put, List.setIfInBounds_toArray, List.set_cons_zero, List.set_cons_succ]
      refine wpAnyH_take (S := (fun wx => wx.heap[wr.heap.size]? = some (.cells #[.int .u64 mk, .int .u64 tk', .int .i64 pr, .int .i64 sz] 49 (0, 0)))) (i := 2) (oi := { dst := some 16, op := Go.Op.load 2 (Go.Operand.tmp 15), type := 2, pos := "law.go:34", after := #[{ on := 1, ground := Go.Ground.data }], guard := none }) (v := ?vd3) rfl (by kernel_rfl) (by kernel_rfl) (by kernel_rfl) (fun _ _ _ h => h) (Or.inl ⟨by rfl, ?yd3⟩) HS ?rd3
      case yd3 => (intro wx hSw; obtain ⟨⟨y0, y1, y2, y3⟩, -⟩ := cell4 hSw; go_simp; first | done | with_reducible rfl | (intro hh; omega) | skip)
      try simp only [Act.put, List.setIfInBounds_toArray, List.set_cons_zero, List.set_cons_succ]
      refine wpAnyH_take (S := (fun wx => wx.heap[wr.heap.size]? = some (.cells #[.int .u64 mk, .int .u64 tk', .int .i64 pr, .int .i64 sz] 49 (0, 0)))) (i := 5) (oi := { dst := some 19, op := Go.Op.move (Go.Operand.tmp 5), type := 24, pos := "law.go:34", after := #[], guard := none }) (v := ?vd4) rfl (by kernel_rfl) (by kernel_rfl) (by kernel_rfl) (fun _ _ _ h => h) (Or.inl ⟨by rfl, ?yd4⟩) HS ?rd4
      case yd4 => (intro wx hSw; skip; go_simp; first | done | with_reducible rfl | (intro hh; omega) | skip)
      try simp only [Act.put, List.setIfInBounds_toArray, List.set_cons_zero, List.set_cons_succ]
      refine wpAnyH_take (S := (fun wx => wx.heap[wr.heap.size]? = some (.cells #[.int .u64 mk, .int .u64 tk', .int .i64 pr, .int .i64 sz] 49 (0, 0)))) (i := 6) (oi := { dst := some 20, op := Go.Op.fieldAddr 49 (Go.Operand.tmp 7) 3, type := 0, pos := "law.go:34", after := #[], guard := none }) (v := ?vd5) rfl (by kernel_rfl) (by kernel_rfl) (by kernel_rfl) (fun _ _ _ h => h) (Or.inl ⟨by rfl, ?yd5⟩) HS ?rd5
      case yd5 => (intro wx hSw; skip; go_simp; first | done | with_reducible rfl | (intro hh; omega) | skip)
      try simp only [Act.put, List.setIfInBounds_toArray, List.set_cons_zero, List.set_cons_succ]
      refine wpAnyH_take (S := (fun wx => wx.heap[wr.heap.size]? = some (.cells #[.int .u64 mk, .int .u64 tk', .int .i64 pr, .int .i64 sz] 49 (0, 0)))) (i := 7) (oi := { dst := some 21, op := Go.Op.load 2 (Go.Operand.tmp 20), type := 2, pos := "law.go:34", after := #[{ on := 6, ground := Go.Ground.data }], guard := none }) (v := ?vd6) rfl (by kernel_rfl) (by kernel_rfl) (by kernel_rfl) (fun _ _ _ h => h) (Or.inl ⟨by rfl, ?yd6⟩) HS ?rd6
      case yd6 => (intro wx hSw; obtain ⟨⟨y0, y1, y2, y3⟩, -⟩ := cell4 hSw; go_simp; first | done | with_reducible rfl | (intro hh; omega) | skip)
      try simp only [Act.put, List.setIfInBounds_toArray, List.set_cons_zero, List.set_cons_succ]
      refine wpAnyH_ready (rs := [3, 8]) (by kernel_rfl) (by simp) ?_
      refine AllReadyH.cons (o := { dst := some 17, op := Go.Op.buildSlice 24 1 #[(0, Go.Operand.tmp 16)], type := 24, pos := "law.go:34", after := #[{ on := 2, ground := Go.Ground.data }], guard := none }) rfl (fun K hK => ?_) ?_
      · skip
        refine st_new1 (y := 16) rfl rfl rfl (fun b17 wn hge hrow hbel => ?_)
        have HS1 := hp_on HS hbel
        replace C := Lib.hid (C.out.on hbel)
        have N17 := Lib.hid hrow
        clear hge hrow hbel
        have HS2 := HS1
        clear HS
        refine hK.out _ _ HS2 (fun HS => ?_)
        clear HS2 hK
        try simp only [Act.put, List.setIfInBounds_toArray, List.set_cons_zero, List.set_cons_succ]
        refine wpAnyH_ready (rs := [4, 8]) (by kernel_rfl) (by simp) ?_
        refine AllReadyH.cons (o := { dst := some 18, op := Go.Op.call { callee := Go.Callee.builtin Go.Builtin.append, args := #[Go.Operand.tmp 14, Go.Operand.tmp 17], argTypes := #[24, 24] }, type := 24, pos := "law.go:34", after := #[{ on := 0, ground := Go.Ground.data }, { on := 3, ground := Go.Ground.data }], guard := none }) rfl (fun K hK => ?_) ?_
        · skip
          refine step_append_lies _ rfl (.tmp 14) (.tmp 17) 24 rfl w.heap.size 2 i0 _ 1 8 Try.underlying24 HI.out.1 HI.out.2.1 HI.out.2.2.1 HI.out.2.2.2 rfl (by decide) u4 lp.length (jC lp) rfl C.out.op ⟨b17, 0, none⟩ 1 1 [.int .i64 pr] rfl rfl (World.news_of_block N17.out) (by simp [Value.oneCell']) (by omega) (by have := HL.out.1; unfold maxLen; omega) (by have := HL.out.1; omega) C.out.below.size _ rfl ?_
          intro g4 cp4 wn hown hgr hwh hlt
          have HS1 := (hgr.block _ (hp_lt HS) (fun e => by have := HLT.out.1 _ e.symm; omega)).trans HS
          replace C := Lib.hid (C.out.putP (l2 := lp ++ [pr]) hgr (by rw [jC_snoc, List.length_append]; exact hown) (fun k hk => by
            rcases hwh with e | e
            · left; rw [e]; exact hk
            · right; simp [Value.ownBlock] at hk; omega))
          clear hown hgr hwh hlt N17
          have HS2 := HS1
          clear HS
          refine hK.out _ _ HS2 (fun HS => ?_)
          clear HS2 hK
          try simp only [Act.put, List.setIfInBounds_toArray, List.set_cons_zero, List.set_cons_succ]
          refine wpAnyH_ready (rs := [8]) (by kernel_rfl) (by simp) ?_
          refine AllReadyH.cons (o := { dst := some 22, op := Go.Op.buildSlice 24 1 #[(0, Go.Operand.tmp 21)], type := 24, pos := "law.go:34", after := #[{ on := 7, ground := Go.Ground.data }], guard := none }) rfl (fun K hK => ?_) AllReadyH.nil
          refine st_new1 (y := 21) rfl rfl rfl (fun b22 wn hge hrow hbel => ?_)
          have M22 := Lib.hid (fun k (hk : (Value.slice (some ⟨g4, 0, none⟩) (lp.length + 1) cp4).ownBlock = some k) => (Nat.ne_of_lt (Nat.lt_of_lt_of_le (C.out.op.lt k hk).2 hge)))
          have HS1 := hp_on HS hbel
          replace C := Lib.hid (C.out.on hbel)
          have N22 := Lib.hid hrow
          clear hge hrow hbel
          have HS2 := HS1
          clear HS
          refine hK.out _ _ HS2 (fun HS => ?_)
          clear HS2 hK
          try simp only [Act.put, List.setIfInBounds_toArray, List.set_cons_zero, List.set_cons_succ]
          refine wpAnyH_ready (rs := [9]) (by kernel_rfl) (by simp) ?_
          refine AllReadyH.cons (o := { dst := some 23, op := Go.Op.call { callee := Go.Callee.builtin Go.Builtin.append, args := #[Go.Operand.tmp 19, Go.Operand.tmp 22], argTypes := #[24, 24] }, type := 24, pos := "law.go:34", after := #[{ on := 5, ground := Go.Ground.data }, { on := 8, ground := Go.Ground.data }, { on := 4, ground := Go.Ground.chain }], guard := none }) rfl (fun K hK => ?_) AllReadyH.nil
          refine step_append_lies _ rfl (.tmp 19) (.tmp 22) 24 rfl w.heap.size 2 i0 _ 1 8 Try.underlying24 HI.out.1 HI.out.2.1 HI.out.2.2.1 HI.out.2.2.2 rfl (by decide) u5 ls.length (jC ls) rfl C.out.os ⟨b22, 0, none⟩ 1 1 [.int .i64 sz] rfl rfl (World.news_of_block N22.out) (by simp [Value.oneCell']) (by omega) (by have := HL.out.2; unfold maxLen; omega) (by have := HL.out.2; omega) C.out.below.size _ rfl ?_
          intro g9 cp9 wn hown hgr hwh hlt
          have HS1 := (hgr.block _ (hp_lt HS) (fun e => by have := HLT.out.2 _ e.symm; omega)).trans HS
          replace C := Lib.hid (C.out.putS (l2 := ls ++ [sz]) hgr (by rw [jC_snoc, List.length_append]; exact hown) (fun k hk => by
            rcases hwh with e | e
            · left; rw [e]; exact hk
            · right; simp [Value.ownBlock] at hk; omega))
          clear hown hgr hwh hlt N22
          have HS2 := HS1
          clear HS
          refine hK.out _ _ HS2 (fun HS => ?_)
          clear HS2 hK
          try simp only [Act.put, List.setIfInBounds_toArray, List.set_cons_zero, List.set_cons_succ]
          refine wpAnyH_take (S := (fun wx => wx.heap[wr.heap.size]? = some (.cells #[.int .u64 mk, .int .u64 tk', .int .i64 pr, .int .i64 sz] 49 (0, 0)))) (i := 10) (oi := { dst := some 4, op := Go.Op.assign (Go.Operand.tmp 18), type := 24, pos := "law.go:34", after := #[{ on := 4, ground := Go.Ground.data }, { on := 9, ground := Go.Ground.chain }, { on := 0, ground := Go.Ground.phase }, { on := 1, ground := Go.Ground.phase }, { on := 2, ground := Go.Ground.phase }, { on := 3, ground := Go.Ground.phase }, { on := 4, ground := Go.Ground.phase }, { on := 5, ground := Go.Ground.textOnly Go.Departure.lateStores }, { on := 6, ground := Go.Ground.textOnly Go.Departure.lateStores }, { on := 7, ground := Go.Ground.textOnly Go.Departure.lateStores }, { on := 8, ground := Go.Ground.textOnly Go.Departure.lateStores }, { on := 9, ground := Go.Ground.textOnly Go.Departure.lateStoresUnsure }], guard := none }) (v := ?vd7) rfl (by kernel_rfl) (by kernel_rfl) (by kernel_rfl) (fun _ _ _ h => h) (Or.inl ⟨by rfl, ?yd7⟩) HS ?rd7
          case yd7 => (intro wx hSw; skip; go_simp; first | done | with_reducible rfl | (intro hh; omega) | skip)
          try simp only [Act.put, List.setIfInBounds_toArray, List.set_cons_zero, List.set_cons_succ]
          refine wpAnyH_take (S := (fun wx => wx.heap[wr.heap.size]? = some (.cells #[.int .u64 mk, .int .u64 tk', .int .i64 pr, .int .i64 sz] 49 (0, 0)))) (i := 11) (oi := { dst := some 5, op := Go.Op.assign (Go.Operand.tmp 23), type := 24, pos := "law.go:34", after := #[{ on := 9, ground := Go.Ground.data }, { on := 10, ground := Go.Ground.chain }, { on := 0, ground := Go.Ground.phase }, { on := 1, ground := Go.Ground.phase }, { on := 2, ground := Go.Ground.phase }, { on := 3, ground := Go.Ground.phase }, { on := 4, ground := Go.Ground.phase }, { on := 5, ground := Go.Ground.phase }, { on := 6, ground := Go.Ground.phase }, { on := 7, ground := Go.Ground.phase }, { on := 8, ground := Go.Ground.phase }, { on := 9, ground := Go.Ground.phase }, { on := 10, ground := Go.Ground.phase }], guard := none }) (v := ?vd8) rfl (by kernel_rfl) (by kernel_rfl) (by kernel_rfl) (fun _ _ _ h => h) (Or.inl ⟨by rfl, ?yd8⟩) HS ?rd8
          case yd8 => (intro wx hSw; skip; go_simp; first | done | with_reducible rfl | (intro hh; omega) | skip)
          try simp only [Act.put, List.setIfInBounds_toArray, List.set_cons_zero, List.set_cons_succ]
          refine wpAnyH_done (by kernel_rfl) ?_ _
          refine NoPanic.normal ?_
          go_wp2
          go_roundw
          case rel => exact ⟨k + 1, by omega, by go_num, by rw [HTP.out, HTS.out]; exact C.out⟩
          case measure => simp [intOf]; omega
        refine AllReadyH.cons (o := { dst := some 22, op := Go.Op.buildSlice 24 1 #[(0, Go.Operand.tmp 21)], type := 24, pos := "law.go:34", after := #[{ on := 7, ground := Go.Ground.data }], guard := none }) rfl (fun K hK => ?_) AllReadyH.nil
        refine st_new1 (y := 21) rfl rfl rfl (fun b22 wn hge hrow hbel => ?_)
        have M22 := Lib.hid (fun k (hk : u4.ownBlock = some k) => (Nat.ne_of_lt (Nat.lt_of_lt_of_le (C.out.op.lt k hk).2 hge)))
        have HS1 := hp_on HS hbel
        replace N17 := Lib.hid (hp_on N17.out hbel)
        replace C := Lib.hid (C.out.on hbel)
        have N22 := Lib.hid hrow
        clear hge hrow hbel
        have HS2 := HS1
        clear HS
        refine hK.out _ _ HS2 (fun HS => ?_)
        clear HS2 hK
        try simp only [Act.put, List.setIfInBounds_toArray, List.set_cons_zero, List.set_cons_succ]
        refine wpAnyH_ready (rs := [4]) (by kernel_rfl) (by simp) ?_
        refine AllReadyH.cons (o := { dst := some 18, op := Go.Op.call { callee := Go.Callee.builtin Go.Builtin.append, args := #[Go.Operand.tmp 14, Go.Operand.tmp 17], argTypes := #[24, 24] }, type := 24, pos := "law.go:34", after := #[{ on := 0, ground := Go.Ground.data }, { on := 3, ground := Go.Ground.data }], guard := none }) rfl (fun K hK => ?_) AllReadyH.nil
        refine step_append_lies _ rfl (.tmp 14) (.tmp 17) 24 rfl w.heap.size 2 i0 _ 1 8 Try.underlying24 HI.out.1 HI.out.2.1 HI.out.2.2.1 HI.out.2.2.2 rfl (by decide) u4 lp.length (jC lp) rfl C.out.op ⟨b17, 0, none⟩ 1 1 [.int .i64 pr] rfl rfl (World.news_of_block N17.out) (by simp [Value.oneCell']) (by omega) (by have := HL.out.1; unfold maxLen; omega) (by have := HL.out.1; omega) C.out.below.size _ rfl ?_
        intro g4 cp4 wn hown hgr hwh hlt
        have HS1 := (hgr.block _ (hp_lt HS) (fun e => by have := HLT.out.1 _ e.symm; omega)).trans HS
        replace N22 := Lib.hid ((hgr.block _ (hp_lt N22.out) (fun e => M22.out _ e.symm rfl)).trans N22.out)
        replace C := Lib.hid (C.out.putP (l2 := lp ++ [pr]) hgr (by rw [jC_snoc, List.length_append]; exact hown) (fun k hk => by
          rcases hwh with e | e
          · left; rw [e]; exact hk
          · right; simp [Value.ownBlock] at hk; omega))
        clear hown hgr hwh hlt N17
        have HS2 := HS1
        clear HS
        refine hK.out _ _ HS2 (fun HS => ?_)
        clear HS2 hK
        try simp only [Act.put, List.setIfInBounds_toArray, List.set_cons_zero, List.set_cons_succ]
        refine wpAnyH_ready (rs := [9]) (by kernel_rfl) (by simp) ?_
        refine AllReadyH.cons (o := { dst := some 23, op := Go.Op.call { callee := Go.Callee.builtin Go.Builtin.append, args := #[Go.Operand.tmp 19, Go.Operand.tmp 22], argTypes := #[24, 24] }, type := 24, pos := "law.go:34", after := #[{ on := 5, ground := Go.Ground.data }, { on := 8, ground := Go.Ground.data }, { on := 4, ground := Go.Ground.chain }], guard := none }) rfl (fun K hK => ?_) AllReadyH.nil
        refine step_append_lies _ rfl (.tmp 19) (.tmp 22) 24 rfl w.heap.size 2 i0 _ 1 8 Try.underlying24 HI.out.1 HI.out.2.1 HI.out.2.2.1 HI.out.2.2.2 rfl (by decide) u5 ls.length (jC ls) rfl C.out.os ⟨b22, 0, none⟩ 1 1 [.int .i64 sz] rfl rfl (World.news_of_block N22.out) (by simp [Value.oneCell']) (by omega) (by have := HL.out.2; unfold maxLen; omega) (by have := HL.out.2; omega) C.out.below.size _ rfl ?_
        intro g9 cp9 wn hown hgr hwh hlt
        have HS1 := (hgr.block _ (hp_lt HS) (fun e => by have := HLT.out.2 _ e.symm; omega)).trans HS
        replace C := Lib.hid (C.out.putS (l2 := ls ++ [sz]) hgr (by rw [jC_snoc, List.length_append]; exact hown) (fun k hk => by
          rcases hwh with e | e
          · left; rw [e]; exact hk
          · right; simp [Value.ownBlock] at hk; omega))
        clear hown hgr hwh hlt N22
        have HS2 := HS1
        clear HS
        refine hK.out _ _ HS2 (fun HS => ?_)
        clear HS2 hK
        try simp only [Act.put, List.setIfInBounds_toArray, List.set_cons_zero, List.set_cons_succ]
        refine wpAnyH_take (S := (fun wx => wx.heap[wr.heap.size]? = some (.cells #[.int .u64 mk, .int .u64 tk', .int .i64 pr, .int .i64 sz] 49 (0, 0)))) (i := 10) (oi := { dst := some 4, op := Go.Op.assign (Go.Operand.tmp 18), type := 24, pos := "law.go:34", after := #[{ on := 4, ground := Go.Ground.data }, { on := 9, ground := Go.Ground.chain }, { on := 0, ground := Go.Ground.phase }, { on := 1, ground := Go.Ground.phase }, { on := 2, ground := Go.Ground.phase }, { on := 3, ground := Go.Ground.phase }, { on := 4, ground := Go.Ground.phase }, { on := 5, ground := Go.Ground.textOnly Go.Departure.lateStores }, { on := 6, ground := Go.Ground.textOnly Go.Departure.lateStores }, { on := 7, ground := Go.Ground.textOnly Go.Departure.lateStores }, { on := 8, ground := Go.Ground.textOnly Go.Departure.lateStores }, { on := 9, ground := Go.Ground.textOnly Go.Departure.lateStoresUnsure }], guard := none }) (v := ?vd9) rfl (by kernel_rfl) (by kernel_rfl) (by kernel_rfl) (fun _ _ _ h => h) (Or.inl ⟨by rfl, ?yd9⟩) HS ?rd9
        case yd9 => (intro wx hSw; skip; go_simp; first | done | with_reducible rfl | (intro hh; omega) | skip)
        try simp only [Act.put, List.setIfInBounds_toArray, List.set_cons_zero, List.set_cons_succ]
        refine wpAnyH_take (S := (fun wx => wx.heap[wr.heap.size]? = some (.cells #[.int .u64 mk, .int .u64 tk', .int .i64 pr, .int .i64 sz] 49 (0, 0)))) (i := 11) (oi := { dst := some 5, op := Go.Op.assign (Go.Operand.tmp 23), type := 24, pos := "law.go:34", after := #[{ on := 9, ground := Go.Ground.data }, { on := 10, ground := Go.Ground.chain }, { on := 0, ground := Go.Ground.phase }, { on := 1, ground := Go.Ground.phase }, { on := 2, ground := Go.Ground.phase }, { on := 3, ground := Go.Ground.phase }, { on := 4, ground := Go.Ground.phase }, { on := 5, ground := Go.Ground.phase }, { on := 6, ground := Go.Ground.phase }, { on := 7, ground := Go.Ground.phase }, { on := 8, ground := Go.Ground.phase }, { on := 9, ground := Go.Ground.phase }, { on := 10, ground := Go.Ground.phase }], guard := none }) (v := ?vd10) rfl (by kernel_rfl) (by kernel_rfl) (by kernel_rfl) (fun _ _ _ h => h) (Or.inl ⟨by rfl, ?yd10⟩) HS ?rd10
        case yd10 => (intro wx hSw; skip; go_simp; first | done | with_reducible rfl | (intro hh; omega) | skip)
        try simp only [Act.put, List.setIfInBounds_toArray, List.set_cons_zero, List.set_cons_succ]
        refine wpAnyH_done (by kernel_rfl) ?_ _
        refine NoPanic.normal ?_
        go_wp2
        go_roundw
        case rel => exact ⟨k + 1, by omega, by go_num, by rw [HTP.out, HTS.out]; exact C.out⟩
        case measure => simp [intOf]; omega
      refine AllReadyH.cons (o := { dst := some 22, op := Go.Op.buildSlice 24 1 #[(0, Go.Operand.tmp 21)], type := 24, pos := "law.go:34", after := #[{ on := 7, ground := Go.Ground.data }], guard := none }) rfl (fun K hK => ?_) AllReadyH.nil
      refine st_new1 (y := 21) rfl rfl rfl (fun b22 wn hge hrow hbel => ?_)
      have M22 := Lib.hid (fun k (hk : u4.ownBlock = some k) => (Nat.ne_of_lt (Nat.lt_of_lt_of_le (C.out.op.lt k hk).2 hge)))
      have HS1 := hp_on HS hbel
      replace C := Lib.hid (C.out.on hbel)
      have N22 := Lib.hid hrow
      clear hge hrow hbel
      have HS2 := HS1
      clear HS
      refine hK.out _ _ HS2 (fun HS => ?_)
      clear HS2 hK
      try simp only [Act.put, List.setIfInBounds_toArray, List.set_cons_zero, List.set_cons_succ]
      refine wpAnyH_ready (rs := [3]) (by kernel_rfl) (by simp) ?_
      refine AllReadyH.cons (o := { dst := some 17, op := Go.Op.buildSlice 24 1 #[(0, Go.Operand.tmp 16)], type := 24, pos := "law.go:34", after := #[{ on := 2, ground := Go.Ground.data }], guard := none }) rfl (fun K hK => ?_) AllReadyH.nil
      refine st_new1 (y := 16) rfl rfl rfl (fun b17 wn hge hrow hbel => ?_)
      have HS1 := hp_on HS hbel
      replace N22 := Lib.hid (hp_on N22.out hbel)
      replace C := Lib.hid (C.out.on hbel)
      have N17 := Lib.hid hrow
      clear hge hrow hbel
      have HS2 := HS1
      clear HS
      refine hK.out _ _ HS2 (fun HS => ?_)
      clear HS2 hK
      try simp only [Act.put, List.setIfInBounds_toArray, List.set_cons_zero, List.set_cons_succ]
      refine wpAnyH_ready (rs := [4]) (by kernel_rfl) (by simp) ?_
      refine AllReadyH.cons (o := { dst := some 18, op := Go.Op.call { callee := Go.Callee.builtin Go.Builtin.append, args := #[Go.Operand.tmp 14, Go.Operand.tmp 17], argTypes := #[24, 24] }, type := 24, pos := "law.go:34", after := #[{ on := 0, ground := Go.Ground.data }, { on := 3, ground := Go.Ground.data }], guard := none }) rfl (fun K hK => ?_) AllReadyH.nil
      refine step_append_lies _ rfl (.tmp 14) (.tmp 17) 24 rfl w.heap.size 2 i0 _ 1 8 Try.underlying24 HI.out.1 HI.out.2.1 HI.out.2.2.1 HI.out.2.2.2 rfl (by decide) u4 lp.length (jC lp) rfl C.out.op ⟨b17, 0, none⟩ 1 1 [.int .i64 pr] rfl rfl (World.news_of_block N17.out) (by simp [Value.oneCell']) (by omega) (by have := HL.out.1; unfold maxLen; omega) (by have := HL.out.1; omega) C.out.below.size _ rfl ?_
      intro g4 cp4 wn hown hgr hwh hlt
      have HS1 := (hgr.block _ (hp_lt HS) (fun e => by have := HLT.out.1 _ e.symm; omega)).trans HS
      replace N22 := Lib.hid ((hgr.block _ (hp_lt N22.out) (fun e => M22.out _ e.symm rfl)).trans N22.out)
      replace C := Lib.hid (C.out.putP (l2 := lp ++ [pr]) hgr (by rw [jC_snoc, List.length_append]; exact hown) (fun k hk => by
        rcases hwh with e | e
        · left; rw [e]; exact hk
        · right; simp [Value.ownBlock] at hk; omega))
      clear hown hgr hwh hlt N17
      have HS2 := HS1
      clear HS
      refine hK.out _ _ HS2 (fun HS => ?_)
      clear HS2 hK
      try simp only [Act.put, List.setIfInBounds_toArray, List.set_cons_zero, List.set_cons_succ]
      refine wpAnyH_ready (rs := [9]) (by kernel_rfl) (by simp) ?_
      refine AllReadyH.cons (o := { dst := some 23, op := Go.Op.call { callee := Go.Callee.builtin Go.Builtin.append, args := #[Go.Operand.tmp 19, Go.Operand.tmp 22], argTypes := #[24, 24] }, type := 24, pos := "law.go:34", after := #[{ on := 5, ground := Go.Ground.data }, { on := 8, ground := Go.Ground.data }, { on := 4, ground := Go.Ground.chain }], guard := none }) rfl (fun K hK => ?_) AllReadyH.nil
      refine step_append_lies _ rfl (.tmp 19) (.tmp 22) 24 rfl w.heap.size 2 i0 _ 1 8 Try.underlying24 HI.out.1 HI.out.2.1 HI.out.2.2.1 HI.out.2.2.2 rfl (by decide) u5 ls.length (jC ls) rfl C.out.os ⟨b22, 0, none⟩ 1 1 [.int .i64 sz] rfl rfl (World.news_of_block N22.out) (by simp [Value.oneCell']) (by omega) (by have := HL.out.2; unfold maxLen; omega) (by have := HL.out.2; omega) C.out.below.size _ rfl ?_
      intro g9 cp9 wn hown hgr hwh hlt
      have HS1 := (hgr.block _ (hp_lt HS) (fun e => by have := HLT.out.2 _ e.symm; omega)).trans HS
      replace C := Lib.hid (C.out.putS (l2 := ls ++ [sz]) hgr (by rw [jC_snoc, List.length_append]; exact hown) (fun k hk => by
        rcases hwh with e | e
        · left; rw [e]; exact hk
        · right; simp [Value.ownBlock] at hk; omega))
      clear hown hgr hwh hlt N22
      have HS2 := HS1
      clear HS
      refine hK.out _ _ HS2 (fun HS => ?_)
      clear HS2 hK
      try simp only [Act.put, List.setIfInBounds_toArray, List.set_cons_zero, List.set_cons_succ]
      refine wpAnyH_take (S := (fun wx => wx.heap[wr.heap.size]? = some (.cells #[.int .u64 mk, .int .u64 tk', .int .i64 pr, .int .i64 sz] 49 (0, 0)))) (i := 10) (oi := { dst := some 4, op := Go.Op.assign (Go.Operand.tmp 18), type := 24, pos := "law.go:34", after := #[{ on := 4, ground := Go.Ground.data }, { on := 9, ground := Go.Ground.chain }, { on := 0, ground := Go.Ground.phase }, { on := 1, ground := Go.Ground.phase }, { on := 2, ground := Go.Ground.phase }, { on := 3, ground := Go.Ground.phase }, { on := 4, ground := Go.Ground.phase }, { on := 5, ground := Go.Ground.textOnly Go.Departure.lateStores }, { on := 6, ground := Go.Ground.textOnly Go.Departure.lateStores }, { on := 7, ground := Go.Ground.textOnly Go.Departure.lateStores }, { on := 8, ground := Go.Ground.textOnly Go.Departure.lateStores }, { on := 9, ground := Go.Ground.textOnly Go.Departure.lateStoresUnsure }], guard := none }) (v := ?vd11) rfl (by kernel_rfl) (by kernel_rfl) (by kernel_rfl) (fun _ _ _ h => h) (Or.inl ⟨by rfl, ?yd11⟩) HS ?rd11
      case yd11 => (intro wx hSw; skip; go_simp; first | done | with_reducible rfl | (intro hh; omega) | skip)
      try simp only [Act.put, List.setIfInBounds_toArray, List.set_cons_zero, List.set_cons_succ]
      refine wpAnyH_take (S := (fun wx => wx.heap[wr.heap.size]? = some (.cells #[.int .u64 mk, .int .u64 tk', .int .i64 pr, .int .i64 sz] 49 (0, 0)))) (i := 11) (oi := { dst := some 5, op := Go.Op.assign (Go.Operand.tmp 23), type := 24, pos := "law.go:34", after := #[{ on := 9, ground := Go.Ground.data }, { on := 10, ground := Go.Ground.chain }, { on := 0, ground := Go.Ground.phase }, { on := 1, ground := Go.Ground.phase }, { on := 2, ground := Go.Ground.phase }, { on := 3, ground := Go.Ground.phase }, { on := 4, ground := Go.Ground.phase }, { on := 5, ground := Go.Ground.phase }, { on := 6, ground := Go.Ground.phase }, { on := 7, ground := Go.Ground.phase }, { on := 8, ground := Go.Ground.phase }, { on := 9, ground := Go.Ground.phase }, { on := 10, ground := Go.Ground.phase }], guard := none }) (v := ?vd12) rfl (by kernel_rfl) (by kernel_rfl) (by kernel_rfl) (fun _ _ _ h => h) (Or.inl ⟨by rfl, ?yd12⟩) HS ?rd12
      case yd12 => (intro wx hSw; skip; go_simp; first | done | with_reducible rfl | (intro hh; omega) | skip)
      try simp only [Act.put, List.setIfInBounds_toArray, List.set_cons_zero, List.set_cons_succ]
      refine wpAnyH_done (by kernel_rfl) ?_ _
      refine NoPanic.normal ?_
      go_wp2
      go_roundw
      case rel => exact ⟨k + 1, by omega, by go_num, by rw [HTP.out, HTS.out]; exact C.out⟩
      case measure => simp [intOf]; omega
    · obtain rfl : k = l.length := by omega
      rw [List.take_length] at hC
      have HC := Lib.hid hC
      clear hC
      go_wp2
      go_ret2
      exact ⟨_, _, rfl, HC.out⟩
end Go.Proofs.Ytfgahmkfhlbogaa.Ca
