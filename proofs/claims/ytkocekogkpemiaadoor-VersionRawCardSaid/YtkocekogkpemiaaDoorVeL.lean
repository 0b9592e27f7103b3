/-
  The law VersionRaw, walked. Conditions: as each theorem states.
-/
import Derived.Test.YtkocekogkpemiaaDoorVeK
namespace Go.Proofs.YtkocekogkpemiaaDoor.Ve
open Go.RowKit
open Go.Proofs.YtkocekogkpemiaaDoor
open Vi Ba Ed

theorem set_four (f g : Nat → Value) {k : Nat} (hk : k < 4) (h : ∀ i, i ≠ k → g i = f i) : (#[f 0, f 1, f 2, f 3] : Array Value).setIfInBounds k (g k) = #[g 0, g 1, g 2, g 3] := by
  rcases (by omega : k = 0 ∨ k = 1 ∨ k = 2 ∨ k = 3) with rfl | rfl | rfl | rfl
  · rw [h 1 (by decide), h 2 (by decide), h 3 (by decide)]; rfl
  · rw [h 0 (by decide), h 2 (by decide), h 3 (by decide)]; rfl
  · rw [h 0 (by decide), h 1 (by decide), h 3 (by decide)]; rfl
  · rw [h 0 (by decide), h 1 (by decide), h 2 (by decide)]; rfl
theorem cell_four {W : World} {n : Nat} {f : Nat → Value} {t : TypeId} (h : W.heap[n]? = some (.cells #[f 0, f 1, f 2, f 3] t (0, 0))) {k : Nat} (hk : k < 4) : W.cell? ⟨n, k, none⟩ = some (f k) ∧ W.frozen? ⟨n, k, none⟩ = false := by
  refine ⟨?_, free_in h k⟩
  rcases (by omega : k = 0 ∨ k = 1 ∨ k = 2 ∨ k = 3) with rfl | rfl | rfl | rfl
  · exact cell_in h 0 _ rfl
  · exact cell_in h 1 _ rfl
  · exact cell_in h 2 _ rfl
  · exact cell_in h 3 _ rfl
def vc (L : Nat → List Fil) (A : Nat → Option Addr) (C : Nat → Nat) (k i : Nat) : Value := if i < k then .slice (A i) (L i).length (C i) else .slice none 0 0
structure LS (w : World) (L : Nat → List Fil) (A : Nat → Option Addr) (C : Nat → Nat) (n k : Nat) (QA : Nat → Option Addr) (QC : Nat → Nat) (W : World) : Prop where
  v : W.heap[n]? = some (.cells #[vc L A C k 0, vc L A C k 1, vc L A C k 2, vc L A C k 3] 26 (0, 0))
  q : W.heap[n + 1]? = some (.cells #[vc L QA QC k 0, vc L QA QC k 1, vc L QA QC k 2, vc L QA QC k 3] 30 (0, 0))
  lit : W.heap[n + 2]? = some (.cells #[.slice (A 0) (L 0).length (C 0), .slice (A 1) (L 1).length (C 1), .slice (A 2) (L 2).length (C 2), .slice (A 3) (L 3).length (C 3)] 22 (0, 0))
  rows : ∀ i, i < k → FRow W (QA i) (L i)
  far : ∀ i, i < k → ∀ a, QA i = some a → n + 2 < a.block
  below : Below w.heap.size w W
  low : w.heap.size ≤ n
  few : ∀ i, i < k → (L i).length ≤ 40
section
variable {w : World} {L : Nat → List Fil} {A : Nat → Option Addr} {C : Nat → Nat} {n k : Nat} {QA : Nat → Option Addr} {QC : Nat → Nat} {W W' : World}
theorem ls_on (h : LS w L A C n k QA QC W) (hb : Below W.heap.size W W') : LS w L A C n k QA QC W' :=
  ⟨kept1 h.v hb, kept1 h.q hb, kept1 h.lit hb, fun i hi => (h.rows i hi).on hb, h.far, h.below.trans (hb.mono h.below.size), h.low, h.few⟩
theorem ls_size (h : LS w L A C n k QA QC W) : n + 2 < W.heap.size := (Array.getElem?_eq_some_iff.1 h.lit).1
theorem frow_far {ao : Option Addr} {l : List Fil} {b j : Nat} {v : Value} (h : FRow W ao l) (hne : ∀ a, ao = some a → b ≠ a.block) : FRow (W.setCell ⟨b, j, none⟩ v) ao l := fun h0 => by
  obtain ⟨a, rfl, hb, hc⟩ := h h0
  have hn := hne a rfl
  refine ⟨_, rfl, by simp; exact hb, fun i hi => ?_⟩
  have k : ∀ q : Addr, q.block = a.block → (W.setCell ⟨b, j, none⟩ v).cell? q = W.cell? q := fun q hq => World.cell?_setCell_far _ _ _ _ (by show b ≠ q.block; omega)
  obtain ⟨c0, c1, c2, c3, c4⟩ := hc i hi
  have hq : (a.add (i * 5)).block = a.block := block_add _ _
  exact ⟨(k _ hq).trans c0, (k ⟨_, _ + 1, none⟩ hq).trans c1, (k ⟨_, _ + 2, none⟩ hq).trans c2, (k ⟨_, _ + 3, none⟩ hq).trans c3, (k ⟨_, _ + 4, none⟩ hq).trans c4⟩
theorem ls_put (h : LS w L A C n k QA QC W) (hk : k < 4) {A' : Option Addr} {c' : Nat} (hf : FRow W A' (L k)) (hfar : ∀ a, A' = some a → n + 2 < a.block) (hl : (L k).length ≤ 40) :
    LS w L A C n (k + 1) (fun i => if i = k then A' else QA i) (fun i => if i = k then c' else QC i) ((W.setCell ⟨n, k, none⟩ (.slice (A k) (L k).length (C k))).setCell ⟨n + 1, k, none⟩ (.slice A' (L k).length c')) := by
  have e1 := set_four (vc L A C k) (vc L A C (k + 1)) hk (fun i hi => by unfold vc; by_cases e : i < k <;> simp [e] <;> omega)
  have e2 := set_four (vc L QA QC k) (vc L (fun i => if i = k then A' else QA i) (fun i => if i = k then c' else QC i) (k + 1)) hk (fun i hi => by unfold vc; by_cases e : i < k <;> simp [e, hi] <;> omega)
  rw [show vc L A C (k + 1) k = .slice (A k) (L k).length (C k) by simp [vc]] at e1
  rw [show vc L (fun i => if i = k then A' else QA i) (fun i => if i = k then c' else QC i) (k + 1) k = .slice A' (L k).length c' by simp [vc]] at e2
  refine ⟨?_, ?_, ?_, fun i hi => ?_, fun i hi a ha => ?_, (h.below.setCell h.low _).setCell (by show w.heap.size ≤ n + 1; have := h.low; omega) _, h.low, fun i hi => ?_⟩
  · rw [← e1]; exact heap_far (heap_set h.v k _) _ _ _ (by omega)
  · rw [← e2]; exact heap_set (heap_far h.q _ _ _ (by omega)) k _
  · exact heap_far (heap_far h.lit _ _ _ (by omega)) _ _ _ (by omega)
  · by_cases e : i = k
    · subst e
      rw [if_pos rfl]
      exact frow_far (frow_far hf fun a ha => by have := hfar a ha; omega) fun a ha => by have := hfar a ha; omega
    · rw [if_neg e]
      exact frow_far (frow_far (h.rows i (by omega)) fun a ha => by have := h.far i (by omega) a ha; omega) fun a ha => by have := h.far i (by omega) a ha; omega
  · by_cases e : i = k
    · subst e; rw [if_pos rfl] at ha; exact hfar a ha
    · rw [if_neg e] at ha; exact h.far i (by omega) a ha
  · by_cases e : i = k
    · subst e; exact hl
    · exact h.few i (by omega)
theorem four4 {L : Nat → List Fil} {A : Nat → Option Addr} {C : Nat → Nat} {W : World} {n : Nat} {t : TypeId} (h : W.heap[n]? = some (.cells #[vc L A C 4 0, vc L A C 4 1, vc L A C 4 2, vc L A C 4 3] t (0, 0))) :
    W.cell? ⟨n, 0, none⟩ = some (.slice (A 0) (L 0).length (C 0)) ∧ W.cell? ⟨n, 1, none⟩ = some (.slice (A 1) (L 1).length (C 1)) ∧ W.cell? ⟨n, 2, none⟩ = some (.slice (A 2) (L 2).length (C 2)) ∧ W.cell? ⟨n, 3, none⟩ = some (.slice (A 3) (L 3).length (C 3)) :=
  ⟨cell_in h 0 _ rfl, cell_in h 1 _ rfl, cell_in h 2 _ rfl, cell_in h 3 _ rfl⟩
theorem ls_start {w w1 : World} (hb : Below w.heap.size w w1) (L : Nat → List Fil) (A : Nat → Option Addr) (C : Nat → Nat) :
    LS w L A C w1.heap.size 0 (fun _ => none) (fun _ => 0) (((w1.alloc (.cells #[.slice none 0 0, .slice none 0 0, .slice none 0 0, .slice none 0 0] 26)).alloc (.cells #[.slice none 0 0, .slice none 0 0, .slice none 0 0, .slice none 0 0] 30)).alloc (.cells #[.slice (A 0) (L 0).length (C 0), .slice (A 1) (L 1).length (C 1), .slice (A 2) (L 2).length (C 2), .slice (A 3) (L 3).length (C 3)] 22)) := by
  obtain ⟨b0, b1, b2⟩ := three_blocks (w := w1) (o1 := .cells #[.slice none 0 0, .slice none 0 0, .slice none 0 0, .slice none 0 0] 26) (o2 := .cells #[.slice none 0 0, .slice none 0 0, .slice none 0 0, .slice none 0 0] 30) (o3 := .cells #[.slice (A 0) (L 0).length (C 0), .slice (A 1) (L 1).length (C 1), .slice (A 2) (L 2).length (C 2), .slice (A 3) (L 3).length (C 3)] 22) (Below.refl _ _)
  exact ⟨b0, b1, b2, fun i hi => by omega, fun i hi => by omega, hb.trans ((three_below w1 _ _ _).mono hb.size), hb.size, fun i hi => by omega⟩
end
def OL (w : World) (L : Nat → List Fil) (A : Nat → Option Addr) (C : Nat → Nat) (n : Nat) (i : Value) (wr : World) : Prop := ∃ (k : Nat) (QA : Nat → Option Addr) (QC : Nat → Nat), k ≤ 4 ∧ i = .int .i64 (k : Nat) ∧ LS w L A C n k QA QC wr
def IL (w : World) (L : Nat → List Fil) (A : Nat → Option Addr) (C : Nat → Nat) (n k : Nat) (QA : Nat → Option Addr) (QC : Nat → Nat) (i : Value) (wr : World) : Prop := ∃ j : Nat, j ≤ (L k).length ∧ i = .int .i64 (j : Nat) ∧ LS w L A C n k QA QC wr ∧ (0 < j → (L k).length ≤ 40)
set_option maxHeartbeats 4000000 in
set_option maxRecDepth 100000 in
theorem law13 {w : World} (hT : Tab w) (L : Nat → List Fil) (A : Nat → Option Addr) (C : Nat → Nat) (H0 : ∀ i, i < 4 → FRow w (A i) (L i)) (HK : ∀ i, i < 4 → ∀ a ∈ L i, a.ok) (HN : ∀ i, i < 4 → (L i).length ≤ 9223372036854775807) :
    Calls Tryd.prog 3 #[.slice (A 0) (L 0).length (C 0), .slice (A 1) (L 1).length (C 1), .slice (A 2) (L 2).length (C 2), .slice (A 3) (L 3).length (C 3)] w (BoPost w true) := by
  have HA := Lib.hid (awake13 w hT)
  have HF := Lib.hid fun (k : Nat) (hk : k < 4) (W : World) (hb : Below w.heap.size w W) (hl : (L k).length ≤ 40) => files_any (w := W) (C k) ((H0 k hk).on (W' := W) hb) (by omega)
  replace H0 := Lib.hid H0
  replace HK := Lib.hid HK
  replace HN := Lib.hid HN
  clear hT
  go_enter Tryd.func3, Tryd.ntmps3
  go_wp2_with (go_at_call 4; (with_reducible refine HA.out.mono ?_); rintro e w1 ⟨rfl, hb1⟩; have S1 := Lib.hid (ls_start hb1 L A C); clear hb1)
  go_loopw [23] (OL w L A C w1.heap.size) (fun i _ => 4 - (intOf i).toNat)
  case atStart => exact ⟨0, _, _, by omega, rfl, S1.out⟩
  case round =>
    clear S1
    generalize w1.heap.size = n at *
    obtain ⟨k, QA, QC, hk, rfl, hs⟩ := hrel
    by_cases hlt : k < 4
    · have hv := vcells hs.lit hlt
      have h4 : (k : Int) < 4 := by omega
      have hn := HN.out k hlt
      have hRk := Lib.hid (H0.out k hlt)
      replace hs := Lib.hid hs
      go_wp2
      go_loopw [30] (IL w L A C n k QA QC) (fun i _ => (L k).length - (intOf i).toNat)
      case atStart => exact ⟨0, by omega, rfl, hs.out, fun h => by omega⟩
      case round =>
        clear hv hs
        obtain ⟨j, hj, rfl, hs, hfew⟩ := hrel
        by_cases hlj : j < (L k).length
        · obtain ⟨a, ha, hab, hca⟩ := hRk.out (by omega)
          have hbl : (a.add (j * 5)).block < w.heap.size := by rw [block_add]; exact hab
          obtain ⟨x0, x1, x2, x3, x4⟩ := (hca j hlj).on hbl hs.below
          have ho := HK.out k hlt _ (List.getElem_mem hlj)
          obtain ⟨_, _, _, _, _, o6, o7⟩ := ho
          have hs2 := Lib.hid (ls_on hs ((Below.refl _ _).alloc (Nat.le_refl _) (.cells #[.int .u64 (L k)[j].number, .int .u64 (L k)[j].size, .int .u64 (L k)[j].count, .string (L k)[j].least, .string (L k)[j].most] 34)))
          clear hca hs hfew
          generalize (L k)[j] = y at *
          rw [ha]
          by_cases g1 : 40 < (L k).length
          · go_wp2
            go_ret
            exact ⟨rfl, hs2.out.below⟩
          · by_cases g2 : 300 < y.least.size
            · go_wp2
              go_ret
              exact ⟨rfl, hs2.out.below⟩
            · by_cases g3 : 300 < y.most.size
              · go_wp2
                go_ret
                exact ⟨rfl, hs2.out.below⟩
              · go_wp2
                go_roundw
                case rel => exact ⟨j + 1, by omega, by go_num, hs2.out, fun _ => by omega⟩
                case measure => simp [intOf]; omega
        · have hj2 : j = (L k).length := by omega
          have hl40 : (L k).length ≤ 40 := by
            by_cases e : (L k).length = 0
            · omega
            · exact hfew (by omega)
          subst hj2
          have hsz := ls_size hs
          replace hs := Lib.hid hs
          go_wp2
          refine wp_region_noPanic ?_
          refine wp_region_held_drew (S := (fun _ => True)) (by kernel_rfl) trivial (fun HS => ?_)
          refine wpAnyH_take (S := (fun _ => True)) (i := 0) (oi := { dst := some 50, op := Go.Op.move (Go.Operand.tmp 11), type := 3, pos := "law.go:137", after := #[], guard := none }) (v := ?va0) rfl (by kernel_rfl) (by kernel_rfl) (by kernel_rfl) (fun _ _ _ h => h) (Or.inl ⟨by rfl, ?ya0⟩) HS ?ra0
          case ya0 => (intro wx hSw; go_simp; first | done | with_reducible rfl | (intro hh; omega) | skip)
          try simp only [Act.put, List.setIfInBounds_toArray, List.set_cons_zero, List.set_cons_succ]
          refine wpAnyH_take (S := (fun _ => True)) (i := 1) (oi := { dst := some 51, op := Go.Op.move (Go.Operand.tmp 11), type := 3, pos := "law.go:137", after := #[{ on := 7, ground := Go.Ground.gcOnly Go.Departure.lateStores }], guard := none }) (v := ?va1) rfl (by kernel_rfl) (by kernel_rfl) (by kernel_rfl) (fun _ _ _ h => h) (Or.inl ⟨by rfl, ?ya1⟩) HS ?ra1
          case ya1 => (intro wx hSw; go_simp; first | done | with_reducible rfl | (intro hh; omega) | skip)
          try simp only [Act.put, List.setIfInBounds_toArray, List.set_cons_zero, List.set_cons_succ]
          refine wpAnyH_take (S := (fun _ => True)) (i := 2) (oi := { dst := some 52, op := Go.Op.move (Go.Operand.tmp 12), type := 22, pos := "law.go:137", after := #[], guard := none }) (v := ?va2) rfl (by kernel_rfl) (by kernel_rfl) (by kernel_rfl) (fun _ _ _ h => h) (Or.inl ⟨by rfl, ?ya2⟩) HS ?ra2
          case ya2 => (intro wx hSw; go_simp; first | done | with_reducible rfl | (intro hh; omega) | skip)
          try simp only [Act.put, List.setIfInBounds_toArray, List.set_cons_zero, List.set_cons_succ]
          refine wpAnyH_take (S := (fun _ => True)) (i := 3) (oi := { dst := some 53, op := Go.Op.move (Go.Operand.tmp 12), type := 22, pos := "law.go:137", after := #[], guard := none }) (v := ?va3) rfl (by kernel_rfl) (by kernel_rfl) (by kernel_rfl) (fun _ _ _ h => h) (Or.inl ⟨by rfl, ?ya3⟩) HS ?ra3
          case ya3 => (intro wx hSw; go_simp; first | done | with_reducible rfl | (intro hh; omega) | skip)
          try simp only [Act.put, List.setIfInBounds_toArray, List.set_cons_zero, List.set_cons_succ]
          refine wpAnyH_take (S := (fun _ => True)) (i := 5) (oi := { dst := some 55, op := Go.Op.fieldAddr 26 (Go.Operand.tmp 9) 0, type := 0, pos := "law.go:137", after := #[], guard := none }) (v := ?va5) rfl (by kernel_rfl) (by kernel_rfl) (by kernel_rfl) (fun _ _ _ h => h) (Or.inl ⟨by rfl, ?ya5⟩) HS ?ra5
          case ya5 => (intro wx hSw; go_simp; first | done | with_reducible rfl | (intro hh; omega) | skip)
          try simp only [Act.put, List.setIfInBounds_toArray, List.set_cons_zero, List.set_cons_succ]
          refine wpAnyH_take (S := (fun _ => True)) (i := 6) (oi := { dst := some 56, op := Go.Op.indexAddr 24 (Go.Operand.tmp 55) (Go.Operand.tmp 50), type := 0, pos := "law.go:137", after := #[{ on := 5, ground := Go.Ground.data }, { on := 0, ground := Go.Ground.data }, { on := 0, ground := Go.Ground.phase }, { on := 1, ground := Go.Ground.textOnly Go.Departure.lateStores }, { on := 2, ground := Go.Ground.phase }, { on := 3, ground := Go.Ground.textOnly Go.Departure.lateStores }, { on := 4, ground := Go.Ground.textOnly Go.Departure.lateStoresUnsure }], guard := none }) (v := ?va6) rfl (by kernel_rfl) (by kernel_rfl) (by kernel_rfl) (fun _ _ _ h => h) (Or.inl ⟨by rfl, ?ya6⟩) HS ?ra6
          case ya6 => (intro wx hSw; go_simp; first | done | with_reducible rfl | (intro hh; omega) | skip)
          try simp only [Act.put, List.setIfInBounds_toArray, List.set_cons_zero, List.set_cons_succ]
          refine wpAnyH_take (S := (fun _ => True)) (i := 8) (oi := { dst := some 57, op := Go.Op.fieldAddr 30 (Go.Operand.tmp 10) 0, type := 0, pos := "law.go:137", after := #[], guard := none }) (v := ?va8) rfl (by kernel_rfl) (by kernel_rfl) (by kernel_rfl) (fun _ _ _ h => h) (Or.inl ⟨by rfl, ?ya8⟩) HS ?ra8
          case ya8 => (intro wx hSw; go_simp; first | done | with_reducible rfl | (intro hh; omega) | skip)
          try simp only [Act.put, List.setIfInBounds_toArray, List.set_cons_zero, List.set_cons_succ]
          refine wpAnyH_ready (rs := [4]) (by kernel_rfl) (by simp) ?_
          refine AllReadyH.cons (o := { dst := some 54, op := Go.Op.call { callee := Go.Callee.value (Go.Operand.func 5), args := #[Go.Operand.tmp 53], argTypes := #[22] }, type := 27, pos := "law.go:137", after := #[{ on := 3, ground := Go.Ground.data }], guard := none }) rfl (fun K hK => ?_) AllReadyH.nil
          go_simp
          refine (HF.out k hlt _ (drewn hs.out.below) hl40).mono ?_; rintro e w2 ⟨A', c', rfl, hf2, hfar2, hb2⟩; have S2 := Lib.hid (ls_on hs.out (undrew hb2)); have F2 := Lib.hid hf2; have G2 : Hid (∀ a, A' = some a → n + 2 < a.block) := fun a ha => by { have h5 := hfar2 a ha; have h6 : wr.heap.size ≤ a.block := h5; omega }; clear hf2 hfar2 hb2
          refine hK.out _ _ (trivial) (fun HS => ?_)
          try simp only [Act.put, List.setIfInBounds_toArray, List.set_cons_zero, List.set_cons_succ]
          refine wpAnyH_ready (rs := [7]) (by kernel_rfl) (by simp) ?_
          refine AllReadyH.cons (o := { dst := none, op := Go.Op.store 22 (Go.Operand.tmp 56) (Go.Operand.tmp 52), type := 0, pos := "law.go:137", after := #[{ on := 6, ground := Go.Ground.data }, { on := 2, ground := Go.Ground.data }, { on := 4, ground := Go.Ground.chain }, { on := 0, ground := Go.Ground.phase }, { on := 1, ground := Go.Ground.textOnly Go.Departure.lateStores }, { on := 2, ground := Go.Ground.phase }, { on := 3, ground := Go.Ground.textOnly Go.Departure.lateStores }, { on := 4, ground := Go.Ground.textOnly Go.Departure.lateStoresUnsure }], guard := none }) rfl (fun K hK => ?_) AllReadyH.nil
          obtain ⟨c9, f9⟩ := cell_four S2.out.v hlt
          go_simp
          clear c9 f9
          refine hK.out _ _ (trivial) (fun HS => ?_)
          try simp only [Act.put, List.setIfInBounds_toArray, List.set_cons_zero, List.set_cons_succ]
          refine wpAnyH_take (S := (fun _ => True)) (i := 9) (oi := { dst := some 58, op := Go.Op.indexAddr 28 (Go.Operand.tmp 57) (Go.Operand.tmp 51), type := 0, pos := "law.go:137", after := #[{ on := 8, ground := Go.Ground.data }, { on := 1, ground := Go.Ground.data }, { on := 0, ground := Go.Ground.phase }, { on := 1, ground := Go.Ground.phase }, { on := 2, ground := Go.Ground.phase }, { on := 3, ground := Go.Ground.phase }, { on := 4, ground := Go.Ground.phase }, { on := 5, ground := Go.Ground.phase }, { on := 6, ground := Go.Ground.phase }, { on := 7, ground := Go.Ground.phase }], guard := none }) (v := ?va9) rfl (by kernel_rfl) (by kernel_rfl) (by kernel_rfl) (fun _ _ _ h => h) (Or.inl ⟨by rfl, ?ya9⟩) HS ?ra9
          case ya9 => (intro wx hSw; go_simp; first | done | with_reducible rfl | (intro hh; omega) | skip)
          try simp only [Act.put, List.setIfInBounds_toArray, List.set_cons_zero, List.set_cons_succ]
          refine wpAnyH_ready (rs := [10]) (by kernel_rfl) (by simp) ?_
          refine AllReadyH.cons (o := { dst := none, op := Go.Op.store 27 (Go.Operand.tmp 58) (Go.Operand.tmp 54), type := 0, pos := "law.go:137", after := #[{ on := 9, ground := Go.Ground.data }, { on := 4, ground := Go.Ground.data }, { on := 7, ground := Go.Ground.chain }, { on := 0, ground := Go.Ground.phase }, { on := 1, ground := Go.Ground.phase }, { on := 2, ground := Go.Ground.phase }, { on := 3, ground := Go.Ground.phase }, { on := 4, ground := Go.Ground.phase }, { on := 5, ground := Go.Ground.phase }, { on := 6, ground := Go.Ground.phase }, { on := 7, ground := Go.Ground.phase }], guard := none }) rfl (fun K hK => ?_) AllReadyH.nil
          obtain ⟨c9, f9⟩ := cell_four (heap_far S2.out.q n k (.slice (A k) (L k).length (C k)) (by omega)) hlt
          go_simp
          clear c9 f9
          refine hK.out _ _ (trivial) (fun HS => ?_)
          try simp only [Act.put, List.setIfInBounds_toArray, List.set_cons_zero, List.set_cons_succ]
          refine wpAnyH_done (by kernel_rfl) ?_ _
          refine NoPanic.normal ?_
          clear HS
          have R9 := Lib.hid (ls_put (c' := c') S2.out hlt F2.out G2.out hl40)
          go_wp2
          go_roundw
          case rel => exact ⟨k + 1, _, _, by omega, by go_num, R9.out⟩
          case measure => simp [intOf]; omega
    · have hk4 : k = 4 := by omega
      subst hk4
      have HR := Lib.hid fun (W : World) (hb : Below w.heap.size w W) => right_any (w := W) L A C ⟨fun i hi => (H0.out i hi).on hb, HK.out, fun i hi => by have := hs.few i hi; omega⟩
      have HQ := Lib.hid fun (W : World) (h : LS w L A C n 4 QA QC W) => rright_any (w := W) L QA QC ⟨h.rows, HK.out, fun i hi => by have := h.few i hi; omega⟩
      unfold vval at HR HQ
      replace hs := Lib.hid hs
      go_wp2
      refine wp_region_noPanic ?_
      refine wp_region_held_drew (S := (fun wx => LS w L A C n 4 QA QC wx)) (by kernel_rfl) (ls_on hs.out ⟨rfl, rfl, rfl, Nat.le_refl _, fun _ _ => rfl⟩) (fun HS => ?_)
      refine wpAnyH_take (S := (fun wx => LS w L A C n 4 QA QC wx)) (i := 0) (oi := { dst := some 60, op := Go.Op.load 26 (Go.Operand.tmp 9), type := 26, pos := "law.go:139", after := #[], guard := none }) (v := ?vb0) rfl (by kernel_rfl) (by kernel_rfl) (by kernel_rfl) (fun _ _ _ h => h) (Or.inl ⟨by rfl, ?yb0⟩) HS ?rb0
      case yb0 => (intro wx hSw; obtain ⟨s0, s1, s2, s3⟩ := four4 hSw.v; obtain ⟨q0, q1, q2, q3⟩ := four4 hSw.q; go_simp; first | done | with_reducible rfl | (intro hh; omega) | skip)
      try simp only [Act.put, List.setIfInBounds_toArray, List.set_cons_zero, List.set_cons_succ]
      refine wpAnyH_take (S := (fun wx => LS w L A C n 4 QA QC wx)) (i := 2) (oi := { dst := some 62, op := Go.Op.load 30 (Go.Operand.tmp 10), type := 30, pos := "law.go:139", after := #[], guard := none }) (v := ?vb2) rfl (by kernel_rfl) (by kernel_rfl) (by kernel_rfl) (fun _ _ _ h => h) (Or.inl ⟨by rfl, ?yb2⟩) HS ?rb2
      case yb2 => (intro wx hSw; obtain ⟨s0, s1, s2, s3⟩ := four4 hSw.v; obtain ⟨q0, q1, q2, q3⟩ := four4 hSw.q; go_simp; first | done | with_reducible rfl | (intro hh; omega) | skip)
      try simp only [Act.put, List.setIfInBounds_toArray, List.set_cons_zero, List.set_cons_succ]
      refine wpAnyH_ready (rs := [1]) (by kernel_rfl) (by simp) ?_
      refine AllReadyH.cons (o := { dst := some 61, op := Go.Op.call { callee := Go.Callee.value (Go.Operand.func 6), args := #[Go.Operand.tmp 60], argTypes := #[26] }, type := 4, pos := "law.go:139", after := #[{ on := 0, ground := Go.Ground.data }], guard := none }) rfl (fun K hK => ?_) AllReadyH.nil
      go_simp
      refine (HR.out _ HS.below).mono ?_; rintro e w2 ⟨⟨b1, rfl, hr1⟩, hb2⟩; have S2 := Lib.hid (ls_on HS hb2)
      refine hK.out _ _ (S2.out) (fun HS => ?_)
      try simp only [Act.put, List.setIfInBounds_toArray, List.set_cons_zero, List.set_cons_succ]
      refine wpAnyH_ready (rs := [3]) (by kernel_rfl) (by simp) ?_
      refine AllReadyH.cons (o := { dst := some 63, op := Go.Op.call { callee := Go.Callee.value (Go.Operand.func 7), args := #[Go.Operand.tmp 62], argTypes := #[30] }, type := 4, pos := "law.go:139", after := #[{ on := 2, ground := Go.Ground.data }, { on := 1, ground := Go.Ground.chain }], guard := none }) rfl (fun K hK => ?_) AllReadyH.nil
      go_simp
      refine (HQ.out _ S2.out).mono ?_; rintro e w3 ⟨⟨b2, rfl, hr2⟩, hb3⟩; have S3 := Lib.hid (ls_on S2.out hb3)
      refine hK.out _ _ (S3.out) (fun HS => ?_)
      try simp only [Act.put, List.setIfInBounds_toArray, List.set_cons_zero, List.set_cons_succ]
      refine wpAnyH_take (S := (fun wx => LS w L A C n 4 QA QC wx)) (i := 4) (oi := { dst := some 64, op := Go.Op.binOp Go.BinOp.eql 4 (Go.Operand.tmp 61) (Go.Operand.tmp 63) 4, type := 4, pos := "law.go:139", after := #[{ on := 1, ground := Go.Ground.data }, { on := 3, ground := Go.Ground.data }], guard := none }) (v := ?vb4) rfl (by kernel_rfl) (by kernel_rfl) (by kernel_rfl) (fun _ _ _ h => h) (Or.inl ⟨by rfl, ?yb4⟩) HS ?rb4
      case yb4 => (intro wx hSw; obtain ⟨s0, s1, s2, s3⟩ := four4 hSw.v; obtain ⟨q0, q1, q2, q3⟩ := four4 hSw.q; go_simp; first | done | with_reducible rfl | (intro hh; omega) | skip)
      try simp only [Act.put, List.setIfInBounds_toArray, List.set_cons_zero, List.set_cons_succ]
      refine wpAnyH_take (S := (fun wx => LS w L A C n 4 QA QC wx)) (i := 5) (oi := { dst := some 8, op := Go.Op.assign (Go.Operand.tmp 64), type := 4, pos := "law.go:139", after := #[{ on := 4, ground := Go.Ground.data }, { on := 3, ground := Go.Ground.chain }, { on := 0, ground := Go.Ground.phase }, { on := 1, ground := Go.Ground.phase }, { on := 2, ground := Go.Ground.phase }, { on := 3, ground := Go.Ground.phase }, { on := 4, ground := Go.Ground.phase }], guard := none }) (v := ?vb5) rfl (by kernel_rfl) (by kernel_rfl) (by kernel_rfl) (fun _ _ _ h => h) (Or.inl ⟨by rfl, ?yb5⟩) HS ?rb5
      case yb5 => (intro wx hSw; obtain ⟨s0, s1, s2, s3⟩ := four4 hSw.v; obtain ⟨q0, q1, q2, q3⟩ := four4 hSw.q; go_simp; first | done | with_reducible rfl | (intro hh; omega) | skip)
      try simp only [Act.put, List.setIfInBounds_toArray, List.set_cons_zero, List.set_cons_succ]
      refine wpAnyH_done (by kernel_rfl) ?_ _
      refine NoPanic.normal ?_
      go_wp2
      go_ret
      refine ⟨?_, HS.below⟩
      have e : b1 = b2 := by
        cases b1 <;> cases b2
        · rfl
        · exact absurd (hr1.2 (hr2.1 rfl)) (by decide)
        · exact absurd (hr2.2 (hr1.1 rfl)) (by decide)
        · rfl
      subst e
      simp
end Go.Proofs.YtkocekogkpemiaaDoor.Ve
