/-
  The document's candles of so many things each (bourseref35.Of), walked. Conditions: the numbers are of 64 bits.
-/
import Derived.Test.YtfgahmkfhlbogaaCaL
import Derived.Test.YtfgahmkfhlbogaaCaH
namespace Go.Proofs.Ytfgahmkfhlbogaa.Ca
open Go.RowKit Go.Shelf
open Go.Proofs.Ytfgahmkfhlbogaa Go.Proofs.Ytfgahmkfhlbogaa.Hx

section
variable {ops : Array Oper} {o : Oper} {a : Act} {W : World} {K : Act → World → Prop} {Q : Exit → Act → World → Prop} {E : Prop}
theorem st_allocR (hg : o.guard = none) (hop : o.op = .alloc 55)
    (h : ∀ b wn, W.heap.size ≤ b → wn.heap[b]? = some (.cells (ccs z0) 55 (0, 0)) → Below W.heap.size W wn → K (a.put o.dst (.pointer (some ⟨b, 0, none⟩))) wn) :
    if Region.wanted o (yielded ops a.tmps) = true then Oper.wp Try.prog o a W K Q else E := by
  have hw : Region.wanted o (yielded ops a.tmps) = true := by simp [Region.wanted, hg]
  rw [if_pos hw]
  unfold Oper.wp
  simp [execOp, hop, go_sem]
  exact h _ _ (Nat.le_refl _) (heap_alloc_last W _) ((Below.refl _ W).alloc (Nat.le_refl _) _)
theorem st_storeR {p q : Nat} {b : Nat} {u c : Cd} {ty : TypeId} (hg : o.guard = none) (hop : o.op = .store 55 (.tmp p) (.tmp q)) (hp : (a.tmps[p]?).getD undef = .pointer (some ⟨b, 0, none⟩))
    (hq : (a.tmps[q]?).getD undef = .agg #[.int .i64 c.f, .int .i64 c.h, .int .i64 c.l, .int .i64 c.a, .int .i64 c.s, .int .i64 c.n])
    (hb : W.heap[b]? = some (.cells (ccs u) ty (0, 0))) (hd : o.dst = none)
    (hK : ∀ wn, wn.heap[b]? = some (.cells (ccs c) ty (0, 0)) → W.grownBy wn (some b) → K a wn) :
    if Region.wanted o (yielded ops a.tmps) = true then Oper.wp Try.prog o a W K Q else E := by
  have hw : Region.wanted o (yielded ops a.tmps) = true := by simp [Region.wanted, hg]
  rw [if_pos hw]
  obtain ⟨⟨d0, d1, d2, d3, d4, d5⟩, f0, f1, f2, f3, f4, f5⟩ := cell6 (show W.heap[b]? = some (.cells #[.int .i64 u.f, .int .i64 u.h, .int .i64 u.l, .int .i64 u.a, .int .i64 u.s, .int .i64 u.n] ty (0, 0)) from hb)
  unfold Oper.wp
  simp [execOp, hop, go_sem, hp, hq, hd, d0, d1, d2, d3, d4, d5, f0, f1, f2, f3, f4, f5]
  exact hK _ (set6_row hb) (set6_grown W b c)
end
/-! ## the beginning and the end of a row of numbers -/
theorem nums_head (X : Option Addr) (L c e : Nat) (he : e ≤ c) (W : World) : (Instr.slice 24 (.slice X L c) none (some (.int .i64 (e : Int))) none).run Try.prog W = .ok (.slice X e c) W := by
  have hu : Try.prog.underlying 24 = some (.slice (Try.prog.elem 24)) := by kernel_rfl
  have hsz : (sizeOf (Try.prog.elem 24)).run Try.prog W = .ok 1 W := by kernel_rfl
  rw [run_slice_h (P := Try.prog) (ht := hu) (w := W) (h0 := by omega) (h2 := by omega), hsz]
  cases X <;> simp [Result.andThen, sliced, Addr.add]
theorem nrow_head {W : World} {X : Option Addr} {l : List Int} (h : NRow W X l) (e : Nat) : NRow W X (l.take e) := fun h0 => by
  simp only [List.length_take] at h0
  obtain ⟨a, rfl, h1, h2⟩ := h (by omega)
  exact ⟨a, rfl, h1, fun i hi => by simp only [List.length_take] at hi; have := h2 i (by omega); simpa using this⟩
def tailA (X : Option Addr) (c e : Nat) : Option Addr := if c = e then X else X.map (fun a => a.add (e * 1))
theorem nums_tail (X : Option Addr) (L c e : Nat) (hc : L ≤ c) (he : e ≤ L) (W : World) : (Instr.slice 24 (.slice X L c) (some (.int .i64 (e : Int))) none none).run Try.prog W = .ok (.slice (tailA X c e) (L - e) (c - e)) W := by
  have hu : Try.prog.underlying 24 = some (.slice (Try.prog.elem 24)) := by kernel_rfl
  have hsz : (sizeOf (Try.prog.elem 24)).run Try.prog W = .ok 1 W := by kernel_rfl
  rw [run_slice_l (P := Try.prog) (ht := hu) (w := W) (h0 := by omega) (h1 := by omega), hsz]
  simp [Result.andThen, sliced, tailA]
theorem nrow_tail {W : World} {X : Option Addr} {l : List Int} {c : Nat} (h : NRow W X l) (hc : l.length ≤ c) (e : Nat) : NRow W (tailA X c e) (l.drop e) := fun h0 => by
  simp only [List.length_drop] at h0
  obtain ⟨a, rfl, h1, h2⟩ := h (by omega)
  refine ⟨a.add e, ?_, by rw [block_add]; exact h1, fun i hi => ?_⟩
  · unfold tailA; rw [if_neg (by omega)]; simp
  · simp only [List.length_drop] at hi
    have := h2 (e + i) (by omega)
    rw [Go.Deep.add_add]
    simpa using this
theorem infoR : (Try.prog.info? 55).map (fun i => (i.zero, i.size, i.bytes)) = some (some (.agg #[.int .i64 0, .int .i64 0, .int .i64 0, .int .i64 0, .int .i64 0, .int .i64 0]), 6, 48) := by kernel_rfl
def rP (l : List Tk) : List Int := l.map (·.p)
def rS (l : List Tk) : List Int := l.map (·.s)
def RofJ (w : World) (l : List Tk) (m : Nat) (v0 v1 v8 : Value) (wr : World) : Prop :=
  ∃ (k f : Nat) (pre : List (Nat × Nat)) (X Y : Option Addr) (cx cy : Nat), k ≤ l.length ∧ v0 = .slice X (l.length - k) cx ∧ v1 = .slice Y (l.length - k) cy ∧ l.length - k ≤ cx ∧ l.length - k ≤ cy ∧ NRow w X (rP (l.drop k)) ∧ NRow w Y (rS (l.drop k)) ∧
    l.length ≤ f + k ∧ parts m l.length l.length 0 = pre ++ parts m l.length f k ∧ (∀ p ∈ pre, (joins z0 (gs tkd l p)).2 = 0) ∧ wr.ownsRow w.heap.size 55 6 v8 (dn tkd l pre).length (cCells (dn tkd l pre)) ∧ Below w.heap.size w wr
set_option maxHeartbeats 4000000 in
set_option maxRecDepth 100000 in
theorem rof_some (Ap As : Option Addr) (cp cs : Nat) (l : List Tk) (hl : l.length ≤ 1000) (hcp : l.length ≤ cp) (hcs : l.length ≤ cs) (hok : ∀ x ∈ l, Am.rg x.p ∧ Am.rg x.s) (m : Nat) (hm : 1 ≤ m) (w : World) (RP : NRow w Ap (l.map (·.p))) (RS : NRow w As (l.map (·.s))) :
    Calls Try.prog 9 #[.slice Ap l.length cp, .slice As l.length cs, .int .i64 m] w (SpQ (spR tkd l m) w) := by
  obtain ⟨i0, hi, hz0, hz1, hz2⟩ := info_parts infoR
  have HI := Lib.hid (And.intro hi (And.intro hz0 (And.intro hz1 hz2)))
  have HOK := Lib.hid hok
  have hlc : (l.length : Int) ≤ 1000 := by omega
  have hmI : (1 : Int) ≤ (m : Int) := by omega
  have HRP := Lib.hid RP
  have HRS := Lib.hid RS
  have cAll := Lib.hid (fun (X Y : Option Addr) (cx cy : Nat) (W : World) (p : Nat × Nat) (hp : p.2 ≤ 1000) (hq : (seg l p).length = p.2) RX RY => all_any X Y cx cy (seg l p) (by omega) (fun x hx => HOK.out x (List.mem_of_mem_drop (List.mem_of_mem_take hx))) W RX RY)
  clear RP RS hok hi hz0 hz1 hz2
  go_enter Try.func9, Try.ntmps9
  go_wp2
  go_loopw [0, 1, 8] (fun v0 v1 v8 wr => RofJ w l m v0 v1 v8 wr) (fun v0 _ _ _ => match v0 with | .slice _ n _ => n | _ => 0)
  case atStart => exact ⟨0, l.length, [], Ap, As, cp, cs, by omega, rfl, rfl, by omega, by omega, HRP.out, HRS.out, by omega, rfl, (fun p hp => by simp at hp), World.ownsRow_nil _ _ _ _, Below.refl _ w⟩
  case round =>
    obtain ⟨k, f, pre, X, Y, cx, cy, hk, rfl, rfl, hcx, hcy, hRX, hRY, hf, hp, hpre, hown, hb⟩ := hrel
    have HP := Lib.hid hp
    have HPRE := Lib.hid hpre
    have HOWN := Lib.hid hown
    have HRX := Lib.hid hRX
    have HRY := Lib.hid hRY
    clear hp hpre hown hRX hRY
    by_cases h1 : k < l.length
    · obtain ⟨f', rfl⟩ : ∃ f', f = f' + 1 := ⟨f - 1, by omega⟩
      have hpe : parts m l.length (f' + 1) k = (k, min m (l.length - k)) :: parts m l.length f' (k + m) := by
        show (if k < l.length then _ else _) = _
        rw [if_pos h1]
      obtain ⟨e, he⟩ : ∃ e, e = min m (l.length - k) := ⟨_, rfl⟩
      rw [← he] at hpe
      have he0 : 0 < e := by omega
      have hek : k + e ≤ l.length := by omega
      have HPE : Hid (parts m l.length l.length 0 = pre ++ [(k, e)] ++ parts m l.length f' (k + m)) := by rw [Hid, HP.out, hpe]; simp
      have HPX : Hid (pre ++ [(k, e)] <+: parts m l.length l.length 0) := Lib.hid ⟨_, HPE.out.symm⟩
      have HPL : Hid (pre.length ≤ 1000) := Lib.hid (by
        have h2 := HPX.out.length_le
        have h3 := parts_len m l.length hm l.length 0
        simp at h2
        omega)
      have hsl : (seg l (k, e)).length = e := by simp [seg]; omega
      have HRA : Hid (NRow w X ((seg l (k, e)).map (·.p))) := Lib.hid (by have := nrow_head HRX.out e; unfold rP at this; rw [← List.map_take] at this; exact this)
      have HRB : Hid (NRow w Y ((seg l (k, e)).map (·.s))) := Lib.hid (by have := nrow_head HRY.out e; unfold rS at this; rw [← List.map_take] at this; exact this)
      have cA := Lib.hid (fun W hW => cAll.out X Y cx cy W (k, e) (by show e ≤ 1000; omega) hsl (HRA.out.below hW) (HRB.out.below hW))
      rw [hsl] at cA
      obtain ⟨r, hr⟩ : ∃ r, r = joins z0 (gs tkd l (k, e)) := ⟨_, rfl⟩
      have HGS := Lib.hid hr
      replace cA : Hid (∀ W, Below w.heap.size w W → Calls Try.prog 18 #[.slice X e cx, .slice Y e cy] W (JsQ r W)) := by rw [hr]; exact cA
      clear hr hsl
      obtain ⟨q, n⟩ := r
      replace cA := Lib.hid (fun W => cA.out W)
      unfold JsQ cv at cA
      simp only at cA
      have hs1 : ∀ W, (Instr.slice 24 (.slice X (l.length - k) cx) none (some (.int .i64 (e : Int))) none).run Try.prog W = .ok (.slice X e cx) W := fun W => nums_head X _ cx e (by omega) W
      have hs2 : ∀ W, (Instr.slice 24 (.slice Y (l.length - k) cy) none (some (.int .i64 (e : Int))) none).run Try.prog W = .ok (.slice Y e cy) W := fun W => nums_head Y _ cy e (by omega) W
      have hs3 : ∀ W, (Instr.slice 24 (.slice X (l.length - k) cx) (some (.int .i64 (e : Int))) none none).run Try.prog W = .ok (.slice (tailA X cx e) (l.length - k - e) (cx - e)) W := fun W => nums_tail X _ cx e (by omega) (by omega) W
      have hs4 : ∀ W, (Instr.slice 24 (.slice Y (l.length - k) cy) (some (.int .i64 (e : Int))) none none).run Try.prog W = .ok (.slice (tailA Y cy e) (l.length - k - e) (cy - e)) W := fun W => nums_tail Y _ cy e (by omega) (by omega) W
      have HT : Hid (NRow w (tailA X cx e) (rP (l.drop (k + e))) ∧ NRow w (tailA Y cy e) (rS (l.drop (k + e)))) := Lib.hid (by
        have a := nrow_tail (c := cx) HRX.out (by unfold rP; simp; omega) e
        have b := nrow_tail (c := cy) HRY.out (by unfold rS; simp; omega) e
        unfold rP at a; unfold rS at b
        rw [← List.map_drop, List.drop_drop] at a b
        exact ⟨a, b⟩)
      have HEQ := Lib.hid he
      clear hpe
      have hpos : (0 : Int) < ((l.length - k : Nat) : Int) := by omega
      go_upto_if 21 with fail
      go_cut [9] (fun s9 wx => s9 = .int .i64 (e : Int) ∧ wx = wr)
      case first =>
        by_cases hgt : ((l.length - k : Nat) : Int) < (m : Int)
        · go_wp2
          go_meet
          case rel => exact ⟨by congr 1; omega, rfl⟩
        · go_wp2
          go_meet
          case rel => exact ⟨by congr 1; omega, rfl⟩
      case rest =>
      obtain ⟨rfl, rfl⟩ := hcut
      clear he
      go_upto_region 8 with fail
      go_cut [10, 11] (fun s10 s11 wx => ∃ b9, s10 = .pointer (some ⟨b9, 0, none⟩) ∧ s11 = .int .i64 n ∧ wx.heap[b9]? = some (.cells (ccs q) 55 (0, 0)) ∧ Below wc.heap.size wc wx)
      case first =>
        refine wp_region_noPanic ?_
        refine wp_region_held_drew (S := (fun wx => Below wc.heap.size wc wx)) (by kernel_rfl) (⟨rfl, rfl, rfl, Nat.le_refl _, fun _ _ => rfl⟩) (fun HS => ?_)
        refine wpAnyH_take (S := (fun wx => Below wc.heap.size wc wx)) (i := 0) (oi := { dst := some 25, op := Go.Op.move (Go.Operand.tmp 0), type := 24, pos := "ref.go:49", after := #[], guard := none }) (v := ?vd1) rfl (by kernel_rfl) (by kernel_rfl) (by kernel_rfl) (fun _ _ _ h => h) (Or.inl ⟨by rfl, ?yd1⟩) HS ?rd1
        case yd1 => (intro wx hSw; skip; go_simp; first | done | with_reducible rfl | (intro hh; omega) | skip)
        try simp only [Act.put, List.setIfInBounds_toArray, List.set_cons_zero, List.set_cons_succ]
        refine wpAnyH_take (S := (fun wx => Below wc.heap.size wc wx)) (i := 1) (oi := { dst := some 26, op := Go.Op.move (Go.Operand.tmp 9), type := 3, pos := "ref.go:49", after := #[], guard := none }) (v := ?vd2) rfl (by kernel_rfl) (by kernel_rfl) (by kernel_rfl) (fun _ _ _ h => h) (Or.inl ⟨by rfl, ?yd2⟩) HS ?rd2
        case yd2 => (intro wx hSw; skip; go_simp; first | done | with_reducible rfl | (intro hh; omega) | skip)
        try simp only [Act.put, List.setIfInBounds_toArray, List.set_cons_zero, List.set_cons_succ]
        refine wpAnyH_take (S := (fun wx => Below wc.heap.size wc wx)) (i := 2) (oi := { dst := some 27, op := Go.Op.slice 24 (Go.Operand.tmp 25) none (some (Go.Operand.tmp 26)) none, type := 24, pos := "ref.go:49", after := #[{ on := 0, ground := Go.Ground.data }, { on := 1, ground := Go.Ground.data }], guard := none }) (v := .slice X e cx) rfl (by kernel_rfl) (by kernel_rfl) (by kernel_rfl) (fun _ _ _ h => h) (Or.inl ⟨by rfl, ?yd3⟩) HS ?rd3
        case yd3 => (intro wx hSw; skip; go_simp; first | done | with_reducible rfl | exact hs1 _ | (intro hh; omega) | skip)
        try simp only [Act.put, List.setIfInBounds_toArray, List.set_cons_zero, List.set_cons_succ]
        refine wpAnyH_take (S := (fun wx => Below wc.heap.size wc wx)) (i := 3) (oi := { dst := some 28, op := Go.Op.move (Go.Operand.tmp 1), type := 24, pos := "ref.go:49", after := #[], guard := none }) (v := ?vd4) rfl (by kernel_rfl) (by kernel_rfl) (by kernel_rfl) (fun _ _ _ h => h) (Or.inl ⟨by rfl, ?yd4⟩) HS ?rd4
        case yd4 => (intro wx hSw; skip; go_simp; first | done | with_reducible rfl | (intro hh; omega) | skip)
        try simp only [Act.put, List.setIfInBounds_toArray, List.set_cons_zero, List.set_cons_succ]
        refine wpAnyH_take (S := (fun wx => Below wc.heap.size wc wx)) (i := 4) (oi := { dst := some 29, op := Go.Op.move (Go.Operand.tmp 9), type := 3, pos := "ref.go:49", after := #[], guard := none }) (v := ?vd5) rfl (by kernel_rfl) (by kernel_rfl) (by kernel_rfl) (fun _ _ _ h => h) (Or.inl ⟨by rfl, ?yd5⟩) HS ?rd5
        case yd5 => (intro wx hSw; skip; go_simp; first | done | with_reducible rfl | (intro hh; omega) | skip)
        try simp only [Act.put, List.setIfInBounds_toArray, List.set_cons_zero, List.set_cons_succ]
        refine wpAnyH_take (S := (fun wx => Below wc.heap.size wc wx)) (i := 5) (oi := { dst := some 30, op := Go.Op.slice 24 (Go.Operand.tmp 28) none (some (Go.Operand.tmp 29)) none, type := 24, pos := "ref.go:49", after := #[{ on := 3, ground := Go.Ground.data }, { on := 4, ground := Go.Ground.data }], guard := none }) (v := .slice Y e cy) rfl (by kernel_rfl) (by kernel_rfl) (by kernel_rfl) (fun _ _ _ h => h) (Or.inl ⟨by rfl, ?yd6⟩) HS ?rd6
        case yd6 => (intro wx hSw; skip; go_simp; first | done | with_reducible rfl | exact hs2 _ | (intro hh; omega) | skip)
        try simp only [Act.put, List.setIfInBounds_toArray, List.set_cons_zero, List.set_cons_succ]
        refine wpAnyH_ready (rs := [6, 10]) (by kernel_rfl) (by simp) ?_
        refine AllReadyH.cons (o := { dst := some 31, op := Go.Op.call { callee := Go.Callee.value (Go.Operand.func 18), args := #[Go.Operand.tmp 27, Go.Operand.tmp 30], argTypes := #[24, 24] }, type := 56, pos := "ref.go:49", after := #[{ on := 2, ground := Go.Ground.data }, { on := 5, ground := Go.Ground.data }], guard := none }) rfl (fun K hK => ?_) ?_
        · skip
          go_simp
          refine (cA.out _ (below_on hb hb.size HS)).mono ?_; rintro e' wn ⟨rfl, hbel⟩
          have HS2 := HS.trans (hbel.mono HS.size)
          clear HS hbel
          refine hK.out _ _ HS2 (fun HS => ?_)
          clear HS2 hK
          try simp only [Act.put, List.setIfInBounds_toArray, List.set_cons_zero, List.set_cons_succ]
          refine wpAnyH_take (S := (fun wx => Below wc.heap.size wc wx)) (i := 7) (oi := { dst := some 24, op := Go.Op.move (Go.Operand.tmp 31), type := 56, pos := "ref.go:49", after := #[{ on := 6, ground := Go.Ground.data }], guard := none }) (v := ?vd7) rfl (by kernel_rfl) (by kernel_rfl) (by kernel_rfl) (fun _ _ _ h => h) (Or.inl ⟨by rfl, ?yd7⟩) HS ?rd7
          case yd7 => (intro wx hSw; skip; go_simp; first | done | with_reducible rfl | (intro hh; omega) | skip)
          try simp only [Act.put, List.setIfInBounds_toArray, List.set_cons_zero, List.set_cons_succ]
          refine wpAnyH_take (S := (fun wx => Below wc.heap.size wc wx)) (i := 8) (oi := { dst := some 32, op := Go.Op.extract (Go.Operand.tmp 24) 0, type := 55, pos := "ref.go:49", after := #[{ on := 7, ground := Go.Ground.data }], guard := none }) (v := ?vd8) rfl (by kernel_rfl) (by kernel_rfl) (by kernel_rfl) (fun _ _ _ h => h) (Or.inl ⟨by rfl, ?yd8⟩) HS ?rd8
          case yd8 => (intro wx hSw; skip; go_simp; first | done | with_reducible rfl | (intro hh; omega) | skip)
          try simp only [Act.put, List.setIfInBounds_toArray, List.set_cons_zero, List.set_cons_succ]
          refine wpAnyH_take (S := (fun wx => Below wc.heap.size wc wx)) (i := 9) (oi := { dst := some 33, op := Go.Op.extract (Go.Operand.tmp 24) 1, type := 3, pos := "ref.go:49", after := #[{ on := 7, ground := Go.Ground.data }, { on := 11, ground := Go.Ground.gcOnly Go.Departure.lateStores }], guard := none }) (v := ?vd9) rfl (by kernel_rfl) (by kernel_rfl) (by kernel_rfl) (fun _ _ _ h => h) (Or.inl ⟨by rfl, ?yd9⟩) HS ?rd9
          case yd9 => (intro wx hSw; skip; go_simp; first | done | with_reducible rfl | (intro hh; omega) | skip)
          try simp only [Act.put, List.setIfInBounds_toArray, List.set_cons_zero, List.set_cons_succ]
          refine wpAnyH_ready (rs := [10]) (by kernel_rfl) (by simp) ?_
          refine AllReadyH.cons (o := { dst := some 10, op := Go.Op.alloc 55, type := 0, pos := "ref.go:49", after := #[], guard := none }) rfl (fun K hK => ?_) AllReadyH.nil
          refine st_allocR rfl rfl (fun b9 wn hge hrow hbel => ?_)
          have P9 := Lib.hid (And.intro hrow (Nat.le_trans HS.size hge))
          clear hrow hge
          have HS2 := HS.trans (hbel.mono HS.size)
          clear HS hbel
          refine hK.out _ _ HS2 (fun HS => ?_)
          clear HS2 hK
          try simp only [Act.put, List.setIfInBounds_toArray, List.set_cons_zero, List.set_cons_succ]
          refine wpAnyH_ready (rs := [11]) (by kernel_rfl) (by simp) ?_
          refine AllReadyH.cons (o := { dst := none, op := Go.Op.store 55 (Go.Operand.tmp 10) (Go.Operand.tmp 32), type := 0, pos := "ref.go:49", after := #[{ on := 10, ground := Go.Ground.data }, { on := 8, ground := Go.Ground.data }, { on := 6, ground := Go.Ground.chain }, { on := 0, ground := Go.Ground.phase }, { on := 1, ground := Go.Ground.phase }, { on := 2, ground := Go.Ground.phase }, { on := 3, ground := Go.Ground.phase }, { on := 4, ground := Go.Ground.phase }, { on := 5, ground := Go.Ground.phase }, { on := 6, ground := Go.Ground.phase }, { on := 7, ground := Go.Ground.phase }, { on := 8, ground := Go.Ground.phase }, { on := 9, ground := Go.Ground.textOnly Go.Departure.lateStores }, { on := 10, ground := Go.Ground.phase }], guard := none }) rfl (fun K hK => ?_) AllReadyH.nil
          refine st_storeR (p := 10) (q := 32) (b := b9) (u := z0) (c := q) rfl rfl rfl rfl P9.out.1 rfl (fun wn hrow hgr => ?_)
          have HS1 := below_grown1 HS hgr P9.out.2
          replace P9 := Lib.hid (And.intro hrow P9.out.2)
          clear hrow hgr
          have HS2 := HS1
          clear HS
          refine hK.out _ _ HS2 (fun HS => ?_)
          clear HS2 hK
          try simp only [Act.put, List.setIfInBounds_toArray, List.set_cons_zero, List.set_cons_succ]
          refine wpAnyH_take (S := (fun wx => Below wc.heap.size wc wx)) (i := 12) (oi := { dst := some 11, op := Go.Op.assign (Go.Operand.tmp 33), type := 3, pos := "ref.go:49", after := #[{ on := 9, ground := Go.Ground.data }, { on := 11, ground := Go.Ground.chain }, { on := 0, ground := Go.Ground.phase }, { on := 1, ground := Go.Ground.phase }, { on := 2, ground := Go.Ground.phase }, { on := 3, ground := Go.Ground.phase }, { on := 4, ground := Go.Ground.phase }, { on := 5, ground := Go.Ground.phase }, { on := 6, ground := Go.Ground.phase }, { on := 7, ground := Go.Ground.phase }, { on := 8, ground := Go.Ground.phase }, { on := 9, ground := Go.Ground.phase }, { on := 10, ground := Go.Ground.phase }, { on := 11, ground := Go.Ground.phase }], guard := none }) (v := ?vd10) rfl (by kernel_rfl) (by kernel_rfl) (by kernel_rfl) (fun _ _ _ h => h) (Or.inl ⟨by rfl, ?yd10⟩) HS ?rd10
          case yd10 => (intro wx hSw; skip; go_simp; first | done | with_reducible rfl | (intro hh; omega) | skip)
          try simp only [Act.put, List.setIfInBounds_toArray, List.set_cons_zero, List.set_cons_succ]
          refine wpAnyH_done (by kernel_rfl) ?_ _
          refine NoPanic.normal ?_
          go_wp2
          go_meet
          case rel => exact ⟨b9, rfl, rfl, P9.out.1, HS⟩
        refine AllReadyH.cons (o := { dst := some 10, op := Go.Op.alloc 55, type := 0, pos := "ref.go:49", after := #[], guard := none }) rfl (fun K hK => ?_) AllReadyH.nil
        refine st_allocR rfl rfl (fun b9 wn hge hrow hbel => ?_)
        have P9 := Lib.hid (And.intro hrow (Nat.le_trans HS.size hge))
        clear hrow hge
        have HS2 := HS.trans (hbel.mono HS.size)
        clear HS hbel
        refine hK.out _ _ HS2 (fun HS => ?_)
        clear HS2 hK
        try simp only [Act.put, List.setIfInBounds_toArray, List.set_cons_zero, List.set_cons_succ]
        refine wpAnyH_ready (rs := [6]) (by kernel_rfl) (by simp) ?_
        refine AllReadyH.cons (o := { dst := some 31, op := Go.Op.call { callee := Go.Callee.value (Go.Operand.func 18), args := #[Go.Operand.tmp 27, Go.Operand.tmp 30], argTypes := #[24, 24] }, type := 56, pos := "ref.go:49", after := #[{ on := 2, ground := Go.Ground.data }, { on := 5, ground := Go.Ground.data }], guard := none }) rfl (fun K hK => ?_) AllReadyH.nil
        go_simp
        refine (cA.out _ (below_on hb hb.size HS)).mono ?_; rintro e' wn ⟨rfl, hbel⟩
        replace P9 := Lib.hid (And.intro (hp_on P9.out.1 hbel) P9.out.2)
        have HS2 := HS.trans (hbel.mono HS.size)
        clear HS hbel
        refine hK.out _ _ HS2 (fun HS => ?_)
        clear HS2 hK
        try simp only [Act.put, List.setIfInBounds_toArray, List.set_cons_zero, List.set_cons_succ]
        refine wpAnyH_take (S := (fun wx => Below wc.heap.size wc wx)) (i := 7) (oi := { dst := some 24, op := Go.Op.move (Go.Operand.tmp 31), type := 56, pos := "ref.go:49", after := #[{ on := 6, ground := Go.Ground.data }], guard := none }) (v := ?vd11) rfl (by kernel_rfl) (by kernel_rfl) (by kernel_rfl) (fun _ _ _ h => h) (Or.inl ⟨by rfl, ?yd11⟩) HS ?rd11
        case yd11 => (intro wx hSw; skip; go_simp; first | done | with_reducible rfl | (intro hh; omega) | skip)
        try simp only [Act.put, List.setIfInBounds_toArray, List.set_cons_zero, List.set_cons_succ]
        refine wpAnyH_take (S := (fun wx => Below wc.heap.size wc wx)) (i := 8) (oi := { dst := some 32, op := Go.Op.extract (Go.Operand.tmp 24) 0, type := 55, pos := "ref.go:49", after := #[{ on := 7, ground := Go.Ground.data }], guard := none }) (v := ?vd12) rfl (by kernel_rfl) (by kernel_rfl) (by kernel_rfl) (fun _ _ _ h => h) (Or.inl ⟨by rfl, ?yd12⟩) HS ?rd12
        case yd12 => (intro wx hSw; skip; go_simp; first | done | with_reducible rfl | (intro hh; omega) | skip)
        try simp only [Act.put, List.setIfInBounds_toArray, List.set_cons_zero, List.set_cons_succ]
        refine wpAnyH_take (S := (fun wx => Below wc.heap.size wc wx)) (i := 9) (oi := { dst := some 33, op := Go.Op.extract (Go.Operand.tmp 24) 1, type := 3, pos := "ref.go:49", after := #[{ on := 7, ground := Go.Ground.data }, { on := 11, ground := Go.Ground.gcOnly Go.Departure.lateStores }], guard := none }) (v := ?vd13) rfl (by kernel_rfl) (by kernel_rfl) (by kernel_rfl) (fun _ _ _ h => h) (Or.inl ⟨by rfl, ?yd13⟩) HS ?rd13
        case yd13 => (intro wx hSw; skip; go_simp; first | done | with_reducible rfl | (intro hh; omega) | skip)
        try simp only [Act.put, List.setIfInBounds_toArray, List.set_cons_zero, List.set_cons_succ]
        refine wpAnyH_ready (rs := [11]) (by kernel_rfl) (by simp) ?_
        refine AllReadyH.cons (o := { dst := none, op := Go.Op.store 55 (Go.Operand.tmp 10) (Go.Operand.tmp 32), type := 0, pos := "ref.go:49", after := #[{ on := 10, ground := Go.Ground.data }, { on := 8, ground := Go.Ground.data }, { on := 6, ground := Go.Ground.chain }, { on := 0, ground := Go.Ground.phase }, { on := 1, ground := Go.Ground.phase }, { on := 2, ground := Go.Ground.phase }, { on := 3, ground := Go.Ground.phase }, { on := 4, ground := Go.Ground.phase }, { on := 5, ground := Go.Ground.phase }, { on := 6, ground := Go.Ground.phase }, { on := 7, ground := Go.Ground.phase }, { on := 8, ground := Go.Ground.phase }, { on := 9, ground := Go.Ground.textOnly Go.Departure.lateStores }, { on := 10, ground := Go.Ground.phase }], guard := none }) rfl (fun K hK => ?_) AllReadyH.nil
        refine st_storeR (p := 10) (q := 32) (b := b9) (u := z0) (c := q) rfl rfl rfl rfl P9.out.1 rfl (fun wn hrow hgr => ?_)
        have HS1 := below_grown1 HS hgr P9.out.2
        replace P9 := Lib.hid (And.intro hrow P9.out.2)
        clear hrow hgr
        have HS2 := HS1
        clear HS
        refine hK.out _ _ HS2 (fun HS => ?_)
        clear HS2 hK
        try simp only [Act.put, List.setIfInBounds_toArray, List.set_cons_zero, List.set_cons_succ]
        refine wpAnyH_take (S := (fun wx => Below wc.heap.size wc wx)) (i := 12) (oi := { dst := some 11, op := Go.Op.assign (Go.Operand.tmp 33), type := 3, pos := "ref.go:49", after := #[{ on := 9, ground := Go.Ground.data }, { on := 11, ground := Go.Ground.chain }, { on := 0, ground := Go.Ground.phase }, { on := 1, ground := Go.Ground.phase }, { on := 2, ground := Go.Ground.phase }, { on := 3, ground := Go.Ground.phase }, { on := 4, ground := Go.Ground.phase }, { on := 5, ground := Go.Ground.phase }, { on := 6, ground := Go.Ground.phase }, { on := 7, ground := Go.Ground.phase }, { on := 8, ground := Go.Ground.phase }, { on := 9, ground := Go.Ground.phase }, { on := 10, ground := Go.Ground.phase }, { on := 11, ground := Go.Ground.phase }], guard := none }) (v := ?vd14) rfl (by kernel_rfl) (by kernel_rfl) (by kernel_rfl) (fun _ _ _ h => h) (Or.inl ⟨by rfl, ?yd14⟩) HS ?rd14
        case yd14 => (intro wx hSw; skip; go_simp; first | done | with_reducible rfl | (intro hh; omega) | skip)
        try simp only [Act.put, List.setIfInBounds_toArray, List.set_cons_zero, List.set_cons_succ]
        refine wpAnyH_done (by kernel_rfl) ?_ _
        refine NoPanic.normal ?_
        go_wp2
        go_meet
        case rel => exact ⟨b9, rfl, rfl, P9.out.1, HS⟩
      case rest =>
      obtain ⟨b9, rfl, rfl, h9, hb7⟩ := hcut
      have OW := Lib.hid (own_on HOWN.out hb7)
      have HW := Lib.hid (below_on hb hb.size hb7)
      obtain ⟨⟨p0, p1, p2, p3, p4, p5⟩, -⟩ := row6 h9
      clear h9 hb7 HOWN hb hs1 hs2 cA
      by_cases hn : n = 0
      · have tn : (n != 0) = false := by simpa using hn
        have HN := Lib.hid hn
        clear hn
        go_wp2_with (first
          | (at_builtin
             refine wpList_append_own _ rfl (.tmp 37) (.tmp 39) 35 rfl w.heap.size 55 i0 _ 6 48 Try.underlying35 HI.out.1 HI.out.2.1 HI.out.2.2.1 HI.out.2.2.2 rfl (by decide) u8 (dn tkd l pre).length (cCells (dn tkd l pre)) rfl (own_on OW.out ((Below.refl _ _).alloc (Nat.le_refl _) _)) ⟨wc.heap.size, 0, none⟩ 1 1 (cq q) rfl rfl (news_six wc (.int .i64 q.f) (.int .i64 q.h) (.int .i64 q.l) (.int .i64 q.a) (.int .i64 q.s) (.int .i64 q.n) 55) (by simp [cq, Value.oneCell']) (by have : pre.length ≤ 1000 := HPL.out; simp only [dn, List.length_map]; unfold maxLen; omega) (by have : pre.length ≤ 1000 := HPL.out; simp only [dn, List.length_map]; omega) (by have := HW.out.size; simp; omega) ?_
             intro v7 w7 hown7 hgr7 _
             have O7 := Lib.hid hown7
             have W7 := Lib.hid (HW.out.trans (((Below.refl _ wc).alloc (Nat.le_refl _) (.cells #[.int .i64 q.f, .int .i64 q.h, .int .i64 q.l, .int .i64 q.a, .int .i64 q.s, .int .i64 q.n] 55)).mono HW.out.size))
             have W8 : Hid (Below w.heap.size w w7) := Lib.hid (W7.out.trans ⟨hgr7.os, hgr7.tape, hgr7.output, hgr7.size, fun j hj => hgr7.block j (by have := W7.out.size; omega) (fun ee => by have := (OW.out.lt _ ee.symm).1; omega)⟩)
             clear hown7 hgr7))
        go_roundw
        case rel =>
          refine ⟨k + e, f', pre ++ [(k, e)], tailA X cx e, tailA Y cy e, cx - e, cy - e, hek, by rw [Nat.sub_sub], by rw [Nat.sub_sub], by omega, by omega, HT.out.1, HT.out.2, by omega, ?_, ?_, ?_, W8.out⟩
          · rw [HPE.out]
            have he := HEQ.out
            by_cases hml : m ≤ l.length - k
            · rw [show e = m by omega]
            · rw [show k + e = l.length by omega]
              have z1 : ∀ j, l.length ≤ j → parts m l.length f' j = [] := fun j hj => by
                cases f' with
                | zero => rfl
                | succ f' => show (if j < l.length then _ else _) = _; rw [if_neg (by omega)]
              rw [z1 (k + m) (by omega), z1 l.length (Nat.le_refl _)]
          · intro p hp
            rcases List.mem_append.1 hp with hp | hp
            · exact HPRE.out p hp
            · simp at hp; subst hp; rw [← HGS.out]; exact HN.out
          · have e1 := HGS.out
            rw [dn_snoc, ← e1, cCells_snoc, List.length_append]
            exact O7.out
        case measure => simp; omega
      · have tn : (n != 0) = true := by simpa using hn
        have HX : Hid (spR tkd l m = ([], n)) := by
          rw [Hid, spR_bad tkd l HPX.out HPRE.out (by rw [← HGS.out]; exact hn), ← HGS.out]
        clear hn
        go_wp2
        go_ret2
        exact ⟨none, 0, by rw [HX.out]; rfl, by rw [HX.out]; exact fun h => by simp at h, fun _ => by rw [HX.out]; exact ⟨rfl, rfl⟩, by rw [HX.out]; exact ⟨by simp, by unfold maxLen; omega⟩, HW.out⟩
    · obtain rfl : k = l.length := by omega
      have hp0 : parts m l.length f l.length = [] := by
        cases f with
        | zero => rfl
        | succ f => show (if l.length < l.length then _ else _) = _; rw [if_neg (by omega)]
      have HE : Hid (spR tkd l m = (dn tkd l pre, 0)) := Lib.hid (by
        have h2 := HP.out
        rw [hp0, List.append_nil] at h2
        rw [spR_all tkd l (by rw [h2]; exact HPRE.out), h2])
      obtain ⟨AO, co, rfl, h1', h2', h3', h4'⟩ := crow_of HOWN.out
      have HR := Lib.hid (And.intro h1' (And.intro h2' (And.intro h3' h4')))
      clear h1' h2' h3' h4' hp0
      have hz : (l.length - l.length : Nat) = 0 := by omega
      rw [hz]
      go_wp2
      go_ret2
      refine ⟨AO, co, by rw [HE.out]; rfl, by rw [HE.out]; exact HR.out.1, by rw [HE.out]; exact HR.out.2.1, by rw [HE.out]; exact HR.out.2.2, hb⟩
end Go.Proofs.Ytfgahmkfhlbogaa.Ca
