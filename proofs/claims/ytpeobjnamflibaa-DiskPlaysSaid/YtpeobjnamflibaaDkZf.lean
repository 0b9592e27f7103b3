/-
  The document's own disk: a crash, walked. Conditions: as each theorem states.
-/
import Derived.Test.YtpeobjnamflibaaDkZe
import Derived.Deep.DeepCutAuto
namespace Go.Proofs.Ytpeobjnamflibaa.Dk
open Go.RowKit Go.Maps

def tl (x : ByteArray) : List UInt8 := x.data.toList
structure CR (w1 : World) (q : Nat) (v : Value) (L : List RFile) (room steps fuse fault : Int) (down : Bool) (fates : List FateS) (ss : List ByteArray) (i k : Nat) (R : List RFile) (W : World) : Prop where
  ref : RefAt W q v R room steps fuse fault down
  mv : Moves w1 (rfeet q v) W (rfeet q v)
  rest : crashT fates ((ss.drop i).map tl) k (R.map rk) = crashT fates (ss.map tl) 0 (L.map rk)
  names : R.map (·.name) = L.map (·.name)
def CrRel (w1 : World) (q : Nat) (v : Value) (L : List RFile) (room steps fuse fault : Int) (down : Bool) (fates : List FateS) (ss : List ByteArray) (kv iv : Value) (wr : World) : Prop :=
  ∃ (i k : Nat) (R : List RFile), i ≤ ss.length ∧ k ≤ i ∧ kv = .int .i64 (k : Nat) ∧ iv = .int .i64 (i : Nat) ∧ Hid (CR w1 q v L room steps fuse fault down fates ss i k R wr)
theorem conv_bytes (w : World) (s : ByteArray) : ∃ cap w', (convert 9 60 (.string s)).run Try.prog w = .ok (.slice (some ⟨w.heap.size, 0, none⟩) s.size cap) w' ∧ s.size ≤ cap ∧ w'.heap.size = w.heap.size + 1 ∧ Below w.heap.size w w' ∧
    (∀ j (hj : j < s.size), w'.cell? ⟨w.heap.size, j, none⟩ = some (.int .u8 (s[j].toNat : Int))) ∧ (∀ j, j < s.size → w'.frozen? ⟨w.heap.size, j, none⟩ = false) := by
  refine ⟨_, _, run_bytes_of_string w _ _ 5 s Try.underlying9 Try.underlying60 Try.underlying5, grownCap_ge _ _ _ _, by simp, (Below.refl _ w).drew.alloc (Nat.le_refl _) _, fun j hj => ?_, fun j hj => ?_⟩
  · exact (World.cell?_alloc_mark w.drew _ _ _ j).trans (bytesRow_at s _ j hj)
  · have h := heap_alloc_new w.drew (.cells (bytesRow s (grownCap w s.size 0 5)) 5 ((bytesRow s (grownCap w s.size 0 5)).size, (bytesRow s (grownCap w s.size 0 5)).size + 1))
    have h2 : j < (bytesRow s (grownCap w s.size 0 5)).size := (Array.getElem?_eq_some_iff.1 (bytesRow_at s (grownCap w s.size 0 5) j hj)).1
    unfold World.frozen?
    rw [show w.heap.size = w.drew.heap.size from rfl, h]
    simp; omega
section
variable {w : World} {q : Nat} {v : Value} {L A B : List RFile} {f : RFile} {room steps fuse fault : Int} {down : Bool}
theorem cr_below {w1 W W2 : World} {fates : List FateS} {ss : List ByteArray} {i k : Nat} {R : List RFile} (h : CR w1 q v L room steps fuse fault down fates ss i k R W) (hb : Below W.heap.size W W2) : CR w1 q v L room steps fuse fault down fates ss i k R W2 :=
  ⟨h.ref.below hb, h.mv.trans (Moves.of_below hb), h.rest, h.names⟩
theorem cr_skip {w1 W : World} {fates : List FateS} {ss : List ByteArray} {i k : Nat} (h : CR w1 q v L room steps fuse fault down fates ss i k (A ++ f :: B) W) (hi : i < ss.length) (hx : ss[i] = f.name) (hA : ∀ a ∈ A, a.name ≠ f.name) (hn : f.s.size - f.sure = 0) :
    CR w1 q v L room steps fuse fault down fates ss (i + 1) k (A ++ f :: B) W := by
  refine ⟨h.ref, h.mv, ?_, h.names⟩
  have hr := h.rest
  rw [List.drop_eq_getElem_cons hi, List.map_cons, hx] at hr
  rw [← hr]
  exact (crashT_skip hA hn).symm
theorem turnT_len (fx : FateS) (t : Tri) : (turnT fx t).length = t.2.1.length := by
  unfold turnT
  split
  · split
    · simp
    · rfl
  · rfl
/-- the bytes beside the disk -/
structure YB (w1 : World) (q : Nat) (v : Value) (L : List RFile) (room steps fuse fault : Int) (down : Bool) (fates : List FateS) (ss : List ByteArray) (i k : Nat) (R : List RFile) (nb : Nat) (T : List UInt8) (W : World) : Prop where
  cr : CR w1 q v L room steps fuse fault down fates ss i k R W
  by_ : ∀ j (hj : j < T.length), W.cell? ⟨nb, j, none⟩ = some (.int .u8 (T[j].toNat : Int))
theorem extract_at (s : ByteArray) (M j : Nat) (hj : j < (s.extract 0 M).size) (hk : j < (s.data.toList.take M).length) : (s.extract 0 M)[j] = (s.data.toList.take M)[j] := by
  have h1 : (s.extract 0 M).data.toList[j]? = (s.data.toList.take M)[j]? := by rw [Lib.extract_data, List.drop_zero, Nat.sub_zero]
  rw [List.getElem?_eq_getElem (show j < (s.extract 0 M).data.toList.length from hj), List.getElem?_eq_getElem hk] at h1
  exact Option.some.inj h1
theorem yb_start {w1 W : World} {fates : List FateS} {ss : List ByteArray} {i k nb M : Nat} {R : List RFile} {T : List UInt8} {s : ByteArray} (h : CR w1 q v L room steps fuse fault down fates ss i k R W)
    (hc : ∀ j (hj : j < (s.extract 0 M).size), W.cell? ⟨nb, j, none⟩ = some (.int .u8 ((s.extract 0 M)[j].toNat : Int))) (hs : (s.extract 0 M).size = M) (hT : T = s.data.toList.take M) : YB w1 q v L room steps fuse fault down fates ss i k R nb T W := by
  subst hT
  refine ⟨h, fun j hj => ?_⟩
  have hj2 : j < (s.extract 0 M).size := by rw [hs]; simp at hj; omega
  rw [hc j hj2, extract_at s M j hj2 hj]
theorem conv_back {w1 W : World} {fates : List FateS} {ss : List ByteArray} {i k nb : Nat} {R : List RFile} {T : List UInt8} (h : YB w1 q v L room steps fuse fault down fates ss i k R nb T W) (cap : Nat) :
    (convert 60 9 (.slice (some ⟨nb, 0, none⟩) T.length cap)).run Try.prog W.drew = .ok (.string ⟨T.toArray⟩) W.drew :=
  run_convert_bytes_back W.drew 60 9 5 ⟨nb, 0, none⟩ cap T Try.underlying60 Try.underlying5 Try.underlying9 (fun j hj => by
    have hadd : (⟨nb, 0, none⟩ : Addr).add j = ⟨nb, j, none⟩ := by unfold Addr.add; split <;> simp_all
    rw [hadd]; exact h.by_ j hj)
theorem cr_drew {w1 W : World} {fates : List FateS} {ss : List ByteArray} {i k : Nat} {R : List RFile} (h : CR w1 q v L room steps fuse fault down fates ss i k R W) : CR w1 q v L room steps fuse fault down fates ss i k R W.drew := cr_below h (Below.refl _ _).drew
theorem turn_take {fx : FateS} {T : List UInt8} {M K pl : Nat} (hT : (turnT fx (rk f)).take M = T) (hkt : keepT fx.keep (rk f) = K) (hpl : fx.plc = (pl : Int)) (hp : pl < K) (hix : f.sure + pl < M) (hMs : M ≤ f.s.size) :
    T = (f.s.data.toList.take M).set (f.sure + pl) ((f.s.data.toList.take M)[f.sure + pl]'(by rw [List.length_take]; show _ < min M f.s.size; omega) ^^^ fx.turn) := by
  rw [← hT]
  have hl : f.sure + pl < f.s.data.toList.length := by show _ < f.s.size; omega
  have e : turnT fx (rk f) = f.s.data.toList.set (f.sure + pl) (f.s.data.toList[f.sure + pl] ^^^ fx.turn) := by
    unfold turnT
    rw [if_pos (by rw [hkt]; omega)]
    have h2 : (rk f).2.1[(rk f).2.2 + fx.plc.toNat]? = some f.s.data.toList[f.sure + pl] := by
      rw [hpl, Int.toNat_natCast]; exact List.getElem?_eq_getElem hl
    rw [h2, hpl, Int.toNat_natCast]; rfl
  rw [e, List.take_set, List.getElem_take]
theorem yb_set {w1 W : World} {fates : List FateS} {ss : List ByteArray} {i k nb ix : Nat} {R : List RFile} {T : List UInt8} (h : YB w1 q v L room steps fuse fault down fates ss i k R nb T W) (c : UInt8) (hf : ∀ x ∈ rfeet q v, x ≠ nb) (hw : w1.heap.size ≤ nb) {u : Value} (hu : W.cell? ⟨nb, ix, none⟩ = some u) :
    YB w1 q v L room steps fuse fault down fates ss i k R nb (T.set ix c) (W.setCell ⟨nb, ix, none⟩ (.int .u8 (c.toNat : Int))).drew := by
  have hg := grown_set W nb ix (.int .u8 (c.toNat : Int))
  have hcr : CR w1 q v L room steps fuse fault down fates ss i k R (W.setCell ⟨nb, ix, none⟩ (.int .u8 (c.toNat : Int))) := by
    refine ⟨⟨?_, ownsRow_kept h.cr.ref.row (fun g hg => ?_), h.cr.ref.few, h.cr.ref.apart, h.cr.ref.sure, h.cr.ref.vol⟩, ?_, h.cr.rest, h.cr.names⟩
    · exact (Below.heap_setCell _ _ _ _ (by exact hf q (by simp [rfeet]))).trans h.cr.ref.ref
    · exact Below.heap_setCell _ _ _ _ (by exact hf g (by simp [rfeet, hg]))
    · exact moves_set h.cr.mv hw
  refine ⟨cr_drew hcr, fun j hj => ?_⟩
  show (W.setCell ⟨nb, ix, none⟩ (.int .u8 (c.toNat : Int))).cell? ⟨nb, j, none⟩ = _
  by_cases hji : ix = j
  · subst hji
    rw [World.cell?_setCell_same (w := W) (a := ⟨nb, ix, none⟩) (v := .int .u8 (c.toNat : Int)) hu]; simp
  · have ho := World.cell?_setCell_other (w := W) (a := ⟨nb, ix, none⟩) (b := ⟨nb, j, none⟩) (v := .int .u8 (c.toNat : Int)) (fun e => hji (by injection e))
    rw [ho, h.by_ j (by simpa using hj)]
    simp [hji]
theorem cr_undrew {w1 W : World} {fates : List FateS} {ss : List ByteArray} {i k : Nat} {R : List RFile} (h : CR w1 q v L room steps fuse fault down fates ss i k R W.drew) : CR w1 q v L room steps fuse fault down fates ss i k R W :=
  ⟨⟨h.ref.ref, h.ref.row, h.ref.few, h.ref.apart, h.ref.sure, h.ref.vol⟩, ⟨⟨h.mv.only.os, h.mv.only.tape, h.mv.only.output, h.mv.only.size, h.mv.only.block⟩, h.mv.fresh⟩, h.rest, h.names⟩
theorem fates_at {fa : Option Addr} {fc k : Nat} {fates : List FateS} {W : World} (h : FatesAt w (.slice fa fates.length fc) fates) (hfb : 0 < fates.length → ∀ a n c, (.slice fa fates.length fc : Value) = .slice (some a) n c → a.block ∉ rfeet q v ∧ a.block < w.heap.size)
    (hq : ∀ j, j < w.heap.size → j ∉ rfeet q v → W.heap[j]? = w.heap[j]?) (hk : k < fates.length) :
    ∃ a : Addr, fa = some a ∧ W.cell? (a.add (k * 3)) = some (.int .i64 (fates.getD k zeroFate).keep) ∧ W.cell? ⟨(a.add (k * 3)).block, (a.add (k * 3)).off + 1, none⟩ = some (.int .i64 (fates.getD k zeroFate).plc) ∧ W.cell? ⟨(a.add (k * 3)).block, (a.add (k * 3)).off + 2, none⟩ = some (.int .u8 ((fates.getD k zeroFate).turn.toNat : Int)) ∧ (a.add (k * 3)).block < W.heap.size := by
  obtain ⟨a, c, hv, hc⟩ := h.cells (by omega)
  injection hv with hv _ _
  subst hv
  obtain ⟨h1, h2⟩ := hfb (by omega) a _ _ rfl
  have he := hq a.block h2 h1
  rw [← add_block a (k * 3)] at he
  obtain ⟨c0, c1, c2⟩ := hc k fates[k] (List.getElem?_eq_getElem hk)
  have hg : fates.getD k zeroFate = fates[k] := by simp [List.getD, List.getElem?_eq_getElem hk]
  rw [hg]
  refine ⟨a, rfl, ?_, ?_, ?_, ?_⟩
  · rw [World.cell?_of_block (a := a.add (k * 3)) he]; exact c0
  · rw [World.cell?_of_block (a := ⟨(a.add (k * 3)).block, (a.add (k * 3)).off + 1, none⟩) he]; exact c1
  · rw [World.cell?_of_block (a := ⟨(a.add (k * 3)).block, (a.add (k * 3)).off + 2, none⟩) he]; exact c2
  · rw [add_block] at he ⊢
    have := Array.getElem?_eq_some_iff.1 (he.trans (Array.getElem?_eq_getElem h2))
    exact this.1
theorem pw_names {R L : List RFile} (hn : R.map (·.name) = L.map (·.name)) (hd : L.Pairwise (fun a b => a.name ≠ b.name)) : R.Pairwise (fun a b => a.name ≠ b.name) := by
  have h : (L.map (·.name)).Pairwise (· ≠ ·) := List.pairwise_map.2 hd
  rw [← hn] at h
  exact List.pairwise_map.1 h
theorem cr_meet {w1 W : World} {fates : List FateS} {ss : List ByteArray} {i k g n cap M : Nat} {T : List UInt8} (h : CR w1 q (.slice (some ⟨g, 0, none⟩) n cap) L room steps fuse fault down fates ss i k (A ++ f :: B) W)
    (hd : L.Pairwise (fun a b => a.name ≠ b.name)) (hi : i < ss.length) (hx : ss[i] = f.name) (hA : ∀ a ∈ A, a.name ≠ f.name) (hn : ¬ f.s.size - f.sure = 0)
    (hM : f.sure + keepT (fates.getD k zeroFate).keep (rk f) = M) (hMs : M ≤ f.s.size) (hT : (turnT (fates.getD k zeroFate) (rk f)).take M = T) (hTl : T.length = M) :
    CR w1 q (.slice (some ⟨g, 0, none⟩) n cap) L room steps fuse fault down fates ss (i + 1) (k + 1) (A ++ ⟨f.name, ⟨T.toArray⟩, M⟩ :: B) ((W.setCell ⟨g, A.length * 3 + 1, none⟩ (.string ⟨T.toArray⟩)).setCell ⟨g, A.length * 3 + 2, none⟩ (.int .i64 (M : Int))) := by
  have hs : (⟨T.toArray⟩ : ByteArray).size = M := by simpa [ByteArray.size] using hTl
  have hv := h.ref.vol
  have hu : ∀ f' : RFile, f'.s.size ≤ f.s.size → usedR (A ++ f' :: B) ≤ 16777216 := fun f' hf => by
    simp [usedR] at hv ⊢; omega
  obtain ⟨r1, o1⟩ := h.ref.set (f' := ⟨f.name, ⟨T.toArray⟩, f.sure⟩) (j := 1) (val := .string ⟨T.toArray⟩) (by decide) rfl (by show f.sure ≤ (⟨T.toArray⟩ : ByteArray).size; omega) (hu _ (by show (⟨T.toArray⟩ : ByteArray).size ≤ _; omega))
  obtain ⟨r2, o2⟩ := r1.set (f' := ⟨f.name, ⟨T.toArray⟩, M⟩) (j := 2) (val := .int .i64 (M : Int)) (by decide) rfl (by show M ≤ (⟨T.toArray⟩ : ByteArray).size; omega) (hu _ (by show (⟨T.toArray⟩ : ByteArray).size ≤ _; omega))
  have hgm : g ∈ rfeet q (.slice (some ⟨g, 0, none⟩) n cap) := by simp [rfeet, Value.ownBlock]
  have hw : ∀ {a b : World}, Only [g] a b → Moves a (rfeet q (.slice (some ⟨g, 0, none⟩) n cap)) b (rfeet q (.slice (some ⟨g, 0, none⟩) n cap)) := fun o => ⟨o.widen (fun x hx => by rw [List.mem_singleton.1 hx]; exact hgm), fun x hx => Or.inl hx⟩
  refine ⟨r2, (h.mv.trans (hw o1)).trans (hw o2), ?_, ?_⟩
  · have hr := h.rest
    rw [List.drop_eq_getElem_cons hi, List.map_cons, hx] at hr
    rw [← hr]
    have hp := pw_names h.names hd
    have hB : ∀ a ∈ B, a.name ≠ f.name := fun a ha => by
      have h2 := (List.pairwise_append.1 hp).2.1
      exact fun e => (List.pairwise_cons.1 h2).1 a ha e.symm
    refine (crashT_meet (f' := ⟨f.name, ⟨T.toArray⟩, M⟩) hA hB hn ?_).symm
    show (f.name.data.toList, T, M) = (f.name.data.toList, (turnT (fates.getD k zeroFate) (rk f)).take (f.sure + keepT (fates.getD k zeroFate).keep (rk f)), f.sure + keepT (fates.getD k zeroFate).keep (rk f))
    rw [hM, hT]
  · have := h.names
    simpa using this
set_option maxRecDepth 100000 in
set_option maxHeartbeats 4000000 in
theorem rcrash_any (h : RefAt w q v L room steps fuse fault down) (hd : L.Pairwise (fun a b => a.name ≠ b.name)) (fv : Value) (fates : List FateS) (hfv : FatesAt w fv fates)
    (hfb : 0 < fates.length → ∀ a n c, fv = .slice (some a) n c → a.block ∉ rfeet q v ∧ a.block < w.heap.size) (hfl : fates.length ≤ 9223372036854775807) :
    Calls Try.prog 25 #[.pointer (some ⟨q, 0, none⟩), fv] w fun r w' => r = .returned (.tuple #[]) ∧ ∃ R, R.map rk = crashT fates ((listI L).map tl) 0 (L.map rk) ∧ RefAt w' q v R room steps (-1) (-1) false ∧ Moves w (rfeet q v) w' (rfeet q v) := by
  have hll := listI_len L.length L rfl
  have hfew := h.few
  have hlt : ∀ k ∈ rfeet q v, k < w.heap.size := h.lt
  obtain ⟨fa, fc, rfl⟩ := hfv.val
  have H := Lib.hid h
  have HD := Lib.hid hd
  have HFV := Lib.hid hfv
  have HFB := Lib.hid hfb
  have hmem := Lib.hid fun x => (mem_listI (L := L) (x := x)).1
  clear h hd hfv hfb
  generalize hss : listI L = ss at *
  go_enter Try.func25, Try.ntmps25
  go_wp2_with (go_at_call 29; with_reducible refine (rlist_any H.out).mono ?_; rintro r w1 ⟨nv, rfl, hown, hb1⟩; rw [hss] at hown; obtain ⟨an, cn, rfl⟩ := row_slice hown; have HO := Lib.hid hown; clear hown)
  go_loopw [4, 16] (CrRel w1 q v L room steps fuse fault down fates ss) (fun _ i _ => ss.length - (intOf i).toNat)
  case atStart => exact ⟨0, 0, L, by omega, by omega, rfl, rfl, Lib.hid ⟨H.out.below hb1, Moves.refl _ _, by simp, rfl⟩⟩
  case round =>
    obtain ⟨i, k, R, hi, hki, rfl, rfl, hC⟩ := hrel
    by_cases hil : i < ss.length
    · obtain ⟨gN, cN, hvN, hbN, hgN, _, xN⟩ := sv_cell HO.out i hil
      injection hvN with hvN _ hcn
      subst hvN
      subst hcn
      have hgf : gN ∉ rfeet q v := fun hm => by have := hlt gN hm; omega
      rw [← World.cell?_of_block (a := ⟨gN, i, none⟩) (hC.out.mv.only.block gN hgN hgf)] at xN
      obtain ⟨A, f, B, rfl, hfx, hA⟩ := first_split (L := R) (x := ss[i]) (by
        obtain ⟨y, hy, he⟩ := hmem.out _ (List.getElem_mem hil)
        have : ss[i] ∈ R.map (·.name) := by rw [hC.out.names]; exact List.mem_map.2 ⟨y, hy, he⟩
        obtain ⟨z, hz, hze⟩ := List.mem_map.1 this
        exact ⟨z, hz, hze⟩)
      have hxi := Lib.hid hfx.symm
      rw [← hfx] at hA xN
      have HA := Lib.hid hA
      clear hA hfx
      have hsure := hC.out.ref.sure f (by simp)
      have hvol : f.s.size ≤ 16777216 := by
        have := hC.out.ref.vol
        simp [usedR] at this
        omega
      by_cases hn : f.s.size - f.sure = 0
      · have hn2 : (f.s.size : Int) - (f.sure : Int) = 0 := by omega
        have HLo : Hid (∀ W : World, RefAt W q v (A ++ f :: B) room steps fuse fault down → Calls Try.prog 35 #[.pointer (some ⟨q, 0, none⟩), .string f.name] W fun r w' => r = .returned (.int .i64 0) ∧ Below W.heap.size W w') := fun W hW => by
          have := rloose_hit hW HA.out
          rwa [hn2] at this
        go_wp2_with (go_at_call 35; with_reducible refine (HLo.out _ hC.out.ref).mono ?_; rintro r w2 ⟨rfl, hb2⟩)
        go_roundw
        case rel =>
          exact ⟨i + 1, k, _, by omega, by omega, rfl, by go_num, Lib.hid (cr_below (cr_skip hC.out hil hxi.out HA.out hn) hb2)⟩
        case measure => simp [intOf]; omega
      · obtain ⟨g, cap, cur, hvg, _, hlg, hmg, _, _, _⟩ := hC.out.ref.mid
        subst hvg
        obtain ⟨N, hN⟩ : ∃ N : Nat, f.s.size - f.sure = N := ⟨_, rfl⟩
        have hN2 : (f.s.size : Int) - (f.sure : Int) = (N : Int) := by omega
        have HLo : Hid (∀ W : World, RefAt W q (.slice (some ⟨g, 0, none⟩) (A.length + (B.length + 1)) cap) (A ++ f :: B) room steps fuse fault down → Calls Try.prog 35 #[.pointer (some ⟨q, 0, none⟩), .string f.name] W fun r w' => r = .returned (.int .i64 (N : Int)) ∧ Below W.heap.size W w') := fun W hW => by
          have := rloose_hit hW HA.out
          rwa [hN2] at this
        have hN0 : ((N : Int) == 0) = false := by simp; omega
        go_upto_if 29 with (go_at_call 35; with_reducible refine (HLo.out _ hC.out.ref).mono ?_; rintro r w2 ⟨rfl, hb2⟩; have C2 := Lib.hid (cr_below hC.out hb2))
        obtain ⟨fx, hfx⟩ : ∃ fx, fates.getD k zeroFate = fx := ⟨_, rfl⟩
        have HX := Lib.hid hfx
        have hqn : ∀ j, j < w.heap.size → j ∉ rfeet q (.slice (some ⟨g, 0, none⟩) (A.length + (B.length + 1)) cap) → w2.heap[j]? = w.heap[j]? := fun j hj hn => (C2.out.mv.only.block j (by have := hb1.size; omega) hn).trans (hb1.block j hj)
        have HFC := Lib.hid (fates_at (k := k) HFV.out HFB.out hqn)
        clear hqn
        go_cut [] (fun wx => wx = w2.alloc (Obj.cells #[.int .i64 fx.keep, .int .i64 fx.plc, .int .u8 (fx.turn.toNat : Int)] 65))
        case first =>
          by_cases hkf : k < fates.length
          · obtain ⟨fad, rfl, z0, z1, z2, hbl⟩ := HFC.out hkf
            rw [hfx] at z0 z1 z2
            have hb2l : (fad.add (k * 3)).block < w2.heap.size := hbl
            go_wp2
            go_meet
            case rel => rfl
          · have hz : fx = zeroFate := by rw [← hfx]; simp [List.getD, List.getElem?_eq_none (show fates.length ≤ k by omega)]
            subst hz
            go_wp2
            go_meet
            case rel => rfl
        case rest =>
          subst hcut
          go_upto_if 39 with fail
          go_cut [9] (fun s9 wx => s9 = .int .i64 (max fx.keep 0) ∧ wx = w2.alloc (Obj.cells #[.int .i64 fx.keep, .int .i64 fx.plc, .int .u8 (fx.turn.toNat : Int)] 65))
          case first =>
            by_cases h0 : fx.keep < 0
            · have hm : max fx.keep 0 = 0 := by omega
              go_wp2
              go_meet
              case rel => exact ⟨by rw [hm], rfl⟩
            · have hm : max fx.keep 0 = fx.keep := by omega
              go_wp2
              go_meet
              case rel => exact ⟨by rw [hm], rfl⟩
          case rest =>
            obtain ⟨rfl, rfl⟩ := hcut
            obtain ⟨K, hK⟩ : ∃ K : Nat, (min (max fx.keep 0) (N : Int)).toNat = K := ⟨_, rfl⟩
            have hKi : min (max fx.keep 0) (N : Int) = (K : Int) := by omega
            go_upto_if 42 with fail
            go_cut [9] (fun s9 wx => s9 = .int .i64 (K : Int) ∧ wx = w2.alloc (Obj.cells #[.int .i64 fx.keep, .int .i64 fx.plc, .int .u8 (fx.turn.toNat : Int)] 65))
            case first =>
              by_cases h0 : (N : Int) < max fx.keep 0
              · have hm : (N : Int) = (K : Int) := by omega
                have hm2 := Lib.hid hm
                clear hm
                go_wp2
                go_meet
                case rel => exact ⟨by rw [hm2.out], rfl⟩
              · have hm : max fx.keep 0 = (K : Int) := by omega
                have hm2 := Lib.hid hm
                clear hm
                go_wp2
                go_meet
                case rel => exact ⟨by rw [hm2.out], rfl⟩
            case rest =>
              obtain ⟨rfl, rfl⟩ := hcut
              have hKN : K ≤ N := by omega
              clear HFC
              have hqv := C2.out.ref.lt
              go_upto_region 17 with (go_at_call 42
                                      with_reducible refine (find_hit (C2.out.ref.below ((Below.refl _ _).alloc (Nat.le_refl _) _)) HA.out).mono ?_
                                      rintro r w3 ⟨rfl, hb3⟩
                                      have C3 := Lib.hid (cr_below (cr_below C2.out ((Below.refl _ _).alloc (Nat.le_refl _) _)) hb3)
                                      have c3 := ref0 C3.out.ref.ref
                                      obtain ⟨y1, y2, y3, _⟩ := C3.out.ref.at3
                                      have B8 : w3.heap[w2.heap.size]? = some (.cells #[.int .i64 fx.keep, .int .i64 fx.plc, .int .u8 (fx.turn.toNat : Int)] 65 (0, 0)) := (hb3.block _ (by simp)).trans (heap_alloc_new w2 _)
                                      have H8 := Lib.hid B8
                                      clear B8)
              obtain ⟨M, hM⟩ : ∃ M : Nat, f.sure + K = M := ⟨_, rfl⟩
              have hMi : (f.sure : Int) + (K : Int) = (M : Int) := by omega
              have hMs : M ≤ f.s.size := by omega
              have hMt : ((M : Nat) : Int).toNat = M := by omega
              have hSz : (f.s.extract 0 M).size = M := by rw [ByteArray.size_extract]; omega
              obtain ⟨cap4, w4, hrun, hcap, hz4, hb4, hcell, hfree⟩ := conv_bytes (w3.alloc (Obj.cells #[Value.string f.name, Value.string f.s, Value.int IntKind.i64 (f.sure : Int)] 69)) (f.s.extract 0 M)
              have hz3 : (w3.alloc (Obj.cells #[Value.string f.name, Value.string f.s, Value.int IntKind.i64 (f.sure : Int)] 69)).heap.size = w3.heap.size + 1 := by simp
              rw [hz3] at hrun hz4
              simp only [hz3] at hcell hfree
              rw [hSz] at hrun hcap
              have C4 := Lib.hid (cr_below (cr_below C3.out ((Below.refl _ _).alloc (Nat.le_refl _) (Obj.cells #[Value.string f.name, Value.string f.s, Value.int IntKind.i64 (f.sure : Int)] 69))) hb4)
              have hw23 : w2.heap.size < w3.heap.size := (Array.getElem?_eq_some_iff.1 H8.out).1
              have Q8 : w4.heap[w2.heap.size]? = some (.cells #[.int .i64 fx.keep, .int .i64 fx.plc, .int .u8 (fx.turn.toNat : Int)] 65 (0, 0)) := (hb4.block _ (by rw [hz3]; omega)).trans ((Below.heap_alloc w3 _ _ hw23).trans H8.out)
              have Q11 : w4.heap[w3.heap.size]? = some (.cells #[Value.string f.name, Value.string f.s, Value.int IntKind.i64 (f.sure : Int)] 69 (0, 0)) := (hb4.block _ (by rw [hz3]; omega)).trans (heap_alloc_new w3 _)
              have z0 := cell_in Q8 0 _ rfl
              have z1 := cell_in Q8 1 _ rfl
              have z2 := cell_in Q8 2 _ rfl
              have b0 := cell_in Q11 0 _ rfl
              have b1 := cell_in Q11 1 _ rfl
              have b2 := cell_in Q11 2 _ rfl
              have hcellH := Lib.hid hcell
              have hfreeH := Lib.hid hfree
              have hb4H := Lib.hid hb4
              clear hcell hfree hb4 Q8 Q11 hz3
              obtain ⟨T, hT⟩ : ∃ T : List UInt8, (turnT fx (rk f)).take M = T := ⟨_, rfl⟩
              have hkt : keepT fx.keep (rk f) = K := by rw [← hK, ← hN]; rfl
              have hTl : T.length = M := by rw [← hT, List.length_take, turnT_len]; show min M f.s.size = M; omega
              have hway : ¬ 0 ≤ fx.plc ∨ (0 ≤ fx.plc ∧ ¬ fx.plc < (K : Int)) ∨ (0 ≤ fx.plc ∧ fx.plc < (K : Int)) := by omega
              rcases hway with h1 | ⟨h1, h2⟩ | ⟨h1, h2⟩
              case' inl =>
                have hTe : T = f.s.data.toList.take M := by rw [← hT]; congr 1; exact if_neg (fun h => h1 h.1)
                have hY := Lib.hid (yb_start C4.out hcellH.out hSz hTe)
              case' inr.inl =>
                have hTe : T = f.s.data.toList.take M := by rw [← hT]; congr 1; exact if_neg (fun h => h2 (by rw [hkt] at h; exact h.2))
                have hY := Lib.hid (yb_start C4.out hcellH.out hSz hTe)
              case inr.inr =>
                obtain ⟨pl, hpl⟩ : ∃ pl : Nat, fx.plc = (pl : Int) := ⟨fx.plc.toNat, by omega⟩
                have hplK : pl < K := by omega
                have hix : f.sure + pl < M := by omega
                have hTe : T = (f.s.data.toList.take M).set (f.sure + pl) ((f.s.data.toList.take M)[f.sure + pl]'(by rw [List.length_take]; show _ < min M f.s.size; omega) ^^^ fx.turn) := turn_take hT hkt hpl hplK hix hMs
                have hY0 := yb_start C4.out hcellH.out hSz rfl
                have hbx := hY0.by_ (f.sure + pl) (by rw [List.length_take]; show _ < min M f.s.size; omega)
                have hbf := hfreeH.out (f.sure + pl) (by rw [hSz]; exact hix)
                generalize (f.s.data.toList.take M)[f.sure + pl]'(by rw [List.length_take]; show _ < min M f.s.size; omega) = bx at *
                have hxor := xor_u8 bx fx.turn
                have hadd : (f.sure : Int) + (pl : Int) = ((f.sure + pl : Nat) : Int) := by omega
                generalize f.sure + pl = ix at *
                have hY0H := Lib.hid hY0
                have hTeH := Lib.hid hTe
                have hpl2 : fx.plc < (K : Int) := h2
                clear hY0 hTe
                go_wp2
                go_region
                have hsz3 := C3.out.mv.only.size
                have hY := Lib.hid (yb_set hY0H.out (ix := ix) (bx ^^^ fx.turn) (fun x hx => by have := hlt x hx; have := hb1.size; omega) (by omega) hbx)
                rw [← hTeH.out, show ((bx ^^^ fx.turn).toNat : Int) = ((bx.toNat ^^^ fx.turn.toNat : Nat) : Int) by rw [UInt8.toNat_xor]] at hY
                have hTH := Lib.hid hT
                clear hY0H
                have hk0 := conv_back hY.out cap4
                rw [hTl] at hk0
                have c5 := ref0 hY.out.cr.ref.ref
                obtain ⟨e1, e2, e3, ef⟩ := hY.out.cr.ref.at3
                have ef1 := ef (A.length * 3 + 1)
                have ef2 := ef (A.length * 3 + 2)
                have c6 := ref0 (cr_undrew hY.out.cr).ref.ref
                obtain ⟨e4, e5, e6, eg⟩ := (cr_undrew hY.out.cr).ref.at3
                have ef4 := eg (A.length * 3 + 1)
                have ef5 := eg (A.length * 3 + 2)
                clear ef eg hT
                go_wp2
                go_region
                go_wp2
                go_roundw
                case rel =>
                  exact ⟨i + 1, k + 1, A ++ ⟨f.name, ⟨T.toArray⟩, M⟩ :: B, by omega, by omega, by go_num, by go_num, Lib.hid (cr_drew (cr_drew (cr_meet (cr_undrew hY.out.cr) HD.out hil hxi.out HA.out hn (by rw [HX.out, hkt]; exact hM) hMs (by rw [HX.out]; exact hTH.out) hTl)))⟩
                case measure => simp [intOf]; omega
              all_goals
                have hTH := Lib.hid hT
                clear hT hTe
                have hk0 := conv_back hY.out cap4
                rw [hTl] at hk0
                have c5 := ref0 hY.out.cr.ref.ref
                obtain ⟨e1, e2, e3, ef⟩ := hY.out.cr.ref.at3
                have ef1 := ef (A.length * 3 + 1)
                have ef2 := ef (A.length * 3 + 2)
                clear ef
                go_wp2
                go_region
                go_wp2
                go_roundw
                case rel =>
                  exact ⟨i + 1, k + 1, A ++ ⟨f.name, ⟨T.toArray⟩, M⟩ :: B, by omega, by omega, by go_num, by go_num, Lib.hid (cr_drew (cr_meet hY.out.cr HD.out hil hxi.out HA.out hn (by rw [HX.out, hkt]; exact hM) hMs (by rw [HX.out]; exact hTH.out) hTl))⟩
                case measure => simp [intOf]; omega
    · obtain rfl : i = ss.length := by omega
      have hd3 := ref3 hC.out.ref.ref
      have hd4 := ref4 hC.out.ref.ref
      have hd5 := ref5 hC.out.ref.ref
      have fr3 := free_in hC.out.ref.ref 3
      have fr4 := free_in hC.out.ref.ref 4
      have fr5 := free_in hC.out.ref.ref 5
      go_wp2
      go_end0
      have g1 := grown_set wr q 5 (.bool false)
      have R0 := hC.out.ref.ref
      have R1 : RefIs (((wr.setCell ⟨q, 5, none⟩ (.bool false)).setCell ⟨q, 3, none⟩ (.int .i64 (-1))).setCell ⟨q, 4, none⟩ (.int .i64 (-1))) q v room steps (-1) (-1) false := heap_set (heap_set (heap_set R0 5 (.bool false)) 3 (.int .i64 (-1))) 4 (.int .i64 (-1))
      obtain ⟨e1, e2⟩ := hC.out.ref.turn R1 ((g1.trans (grown_set _ q 3 _)).trans (grown_set _ q 4 _))
      have hr := hC.out.rest
      rw [List.drop_length] at hr
      exact ⟨rfl, R, hr, e1, ((Moves.of_below hb1).trans hC.out.mv).trans e2⟩
end
end Go.Proofs.Ytpeobjnamflibaa.Dk
