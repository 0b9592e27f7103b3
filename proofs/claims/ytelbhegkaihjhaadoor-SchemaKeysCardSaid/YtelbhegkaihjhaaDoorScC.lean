/-
  The Go text of a market's keys, walked: a thing's key. Conditions: as each theorem states.
-/
import Derived.Test.YtelbhegkaihjhaaDoorScB
import Derived.Lib.OthersKept
import Derived.WalkSmall
namespace Go.Proofs.YtelbhegkaihjhaaDoor
open Go.RowKit
open Vi

/-- a box of a thing, a text that is gone through, a row that grows -/
structure KS (w : World) (x : Th) (k0 gi : Nat) (F : List UInt8) (pos : Nat) (l : List KPart) (v : Value) (W : World) : Prop where
  own : W.ownsRow w.heap.size 49 4 v l.length (l.flatMap KPart.cells)
  below : Below w.heap.size w W
  box : W.heap[k0]? = some (.cells x.cells 24 (0, 0))
  it : W.heap[gi]? = some (.stringIter (bs F) pos)
  low : w.heap.size ≤ gi
theorem own_at {W : World} {B : Nat} {v : Value} {n : Nat} {xs : List Value} {e : TypeId} {g : Nat} (h : W.ownsRow B e 4 v n xs) (hg : v.ownBlock = some g) : ∃ cur, W.heap[g]? = some (.cells cur e (0, 0)) := by
  rcases h.2 with ⟨rfl, _⟩ | ⟨g', cap, cur, rfl, _, hgb, _⟩
  · cases hg
  · obtain rfl : g' = g := by simpa [Value.ownBlock] using hg
    exact ⟨cur, hgb⟩
section
variable {w W W' : World} {x : Th} {k0 gi : Nat} {F : List UInt8} {pos : Nat} {l : List KPart} {v : Value}
theorem ks_k0 (h : KS w x k0 gi F pos l v W) : v.ownBlock ≠ some k0 := fun e => by
  obtain ⟨cur, hc⟩ := own_at h.own e
  rw [h.box] at hc
  injection hc with hc; injection hc with _ hc
  exact absurd hc (by decide)
theorem ks_gi (h : KS w x k0 gi F pos l v W) : v.ownBlock ≠ some gi := fun e => by
  obtain ⟨cur, hc⟩ := own_at h.own e
  rw [h.it] at hc
  injection hc with hc; cases hc
theorem ks_on (h : KS w x k0 gi F pos l v W) (hb : Below W.heap.size W W') : KS w x k0 gi F pos l v W' :=
  ⟨owns_below h.own hb, h.below.trans (hb.mono h.below.size), (hb.block k0 (Array.getElem?_eq_some_iff.1 h.box).1).trans h.box, (hb.block gi (Array.getElem?_eq_some_iff.1 h.it).1).trans h.it, h.low⟩
theorem ks_alloc (h : KS w x k0 gi F pos l v W) (o : Obj) : KS w x k0 gi F pos l v (W.alloc o) := ks_on h ((Below.refl _ _).alloc (Nat.le_refl _) o)
theorem ks_grow (h : KS w x k0 gi F pos l v W) (hg : W.grownBy W' v.ownBlock) {l' : List KPart} {v' : Value} (ho : W'.ownsRow w.heap.size 49 4 v' l'.length (l'.flatMap KPart.cells)) : KS w x k0 gi F pos l' v' W' :=
  ⟨ho, below_grown h.below h.own hg, (hg.block k0 (Array.getElem?_eq_some_iff.1 h.box).1 (fun e => ks_k0 h e.symm)).trans h.box, (hg.block gi (Array.getElem?_eq_some_iff.1 h.it).1 (fun e => ks_gi h e.symm)).trans h.it, h.low⟩
theorem iter_grown (_hi : W.heap[gi]? = some (.stringIter (bs F) pos)) (p : Nat) : W.grownBy (World.iterAt W gi (bs F) p) (some gi) := by
  refine ⟨rfl, rfl, rfl, ?_, fun k _ hk => ?_⟩
  · simp [World.iterAt]
  · have : gi ≠ k := fun e => hk (by rw [e])
    simp [World.iterAt, this]
theorem ks_next (h : KS w x k0 gi F pos l v W) (hp : pos < F.length) (hc : F[pos].toNat < 128) : ∃ W1, (∀ ty, (Instr.next (.pointer (some ⟨gi, 0, none⟩)) true ty).run Tryd.prog W = .ok (.tuple #[.bool true, .int .i64 pos, .int .i32 (F[pos].toNat : Int)]) W1) ∧ KS w x k0 gi F (pos + 1) l v W1 := by
  have hz : pos < (bs F).size := by rw [bs_size]; exact hp
  have hb : (bs F)[pos] = F[pos] := rfl
  have g := iter_grown h.it (pos + 1)
  have hk : gi ≠ k0 := fun e => by have h1 := h.it; rw [e, h.box] at h1; injection h1 with h1; cases h1
  refine ⟨W.iterAt gi (bs F) (pos + 1), fun ty => ?_, h.own.kept g (.inr (ks_gi h)), h.below.trans ⟨g.os, g.tape, g.output, g.size, fun k hlt => g.block k (Nat.lt_of_lt_of_le hlt h.below.size) fun e => by have := h.low; injection e with e; omega⟩, (g.block k0 (Array.getElem?_eq_some_iff.1 h.box).1 (fun e => hk (by injection e with e; exact e.symm))).trans h.box, Lib.iterAt_heap W gi (bs F) pos (pos + 1) h.it, h.low⟩
  exact Lib.run_next_ascii_at W gi (bs F) pos ty h.it hz hc
theorem ks_end (h : KS w x k0 gi F pos l v W) (hp : ¬ pos < F.length) (ty : TypeId) : (Instr.next (.pointer (some ⟨gi, 0, none⟩)) true ty).run Tryd.prog W = .ok (.tuple #[.bool false]) W :=
  Lib.run_next_end_at W gi (bs F) pos ty h.it (by rw [bs_size]; exact hp)
end
theorem eight_cells {W : World} {g : Nat} {x0 x1 x2 x3 x4 x5 x6 x7 : Value} {t : TypeId} (h : W.heap[g]? = some (.cells #[x0, x1, x2, x3, x4, x5, x6, x7] t (0, 0))) :
    W.cell? ⟨g, 0, none⟩ = some x0 ∧ W.cell? ⟨g, 1, none⟩ = some x1 ∧ W.cell? ⟨g, 2, none⟩ = some x2 ∧ W.cell? ⟨g, 3, none⟩ = some x3 ∧ W.cell? ⟨g, 4, none⟩ = some x4 ∧ W.cell? ⟨g, 5, none⟩ = some x5 ∧ W.cell? ⟨g, 6, none⟩ = some x6 ∧ W.cell? ⟨g, 7, none⟩ = some x7 :=
  ⟨cell_in h 0 _ rfl, cell_in h 1 _ rfl, cell_in h 2 _ rfl, cell_in h 3 _ rfl, cell_in h 4 _ rfl, cell_in h 5 _ rfl, cell_in h 6 _ rfl, cell_in h 7 _ rfl⟩
theorem formK_letters (s : ByteArray) : ∀ c ∈ formK s, Letter c ∧ c.toNat < 128 := by
  unfold formK Letter
  intro c hc
  split at hc
  · simp at hc; rcases hc with rfl | rfl <;> decide
  split at hc
  · simp at hc; subst hc; decide
  split at hc
  · simp at hc; rcases hc with rfl | rfl | rfl | rfl <;> decide
  split at hc
  · simp at hc; rcases hc with rfl | rfl <;> decide
  split at hc
  · simp at hc; subst hc; decide
  · cases hc
theorem formK_len (s : ByteArray) : (formK s).length ≤ 4 := by
  unfold formK
  split
  · decide
  split
  · decide
  split
  · decide
  split
  · decide
  split
  · decide
  · decide
theorem own_one {W : World} {B : Nat} (hB : B ≤ W.heap.size) (p : KPart) : (W.alloc (.cells #[.int .u8 p.sort, .int .i64 p.n, .int .u64 p.u, .string p.s] 49 (0, 0))).ownsRow B 49 4 (.slice (some ⟨W.heap.size, 0, none⟩) 1 1) 1 ([p].flatMap KPart.cells) :=
  ⟨rfl, .inr ⟨W.heap.size, 1, _, rfl, hB, heap_alloc_new _ _, Nat.le_refl _, by decide, rfl, rfl⟩⟩
theorem partK_size {t : Th} (hn : t.name.size ≤ 9223372036854775807) (c : UInt8) : (partK c t).s.size ≤ 9223372036854775807 := by
  have z : (⟨#[]⟩ : ByteArray).size ≤ 9223372036854775807 := by decide
  unfold partK
  split
  · exact z
  split
  · exact z
  split
  · split <;> exact z
  split
  · exact z
  split
  · exact z
  split
  · exact z
  · exact hn
theorem rowK_size {t : Th} (hs : t.sort.size ≤ 9223372036854775807) (hn : t.name.size ≤ 9223372036854775807) : ∀ p ∈ rowK t, p.s.size ≤ 9223372036854775807 := fun p hp => by
  rcases List.mem_cons.1 hp with rfl | hp
  · exact hs
  · obtain ⟨c, _, rfl⟩ := List.mem_map.1 hp; exact partK_size hn c
theorem knews (W : World) (q : KPart) : ∀ j u, q.cells[j]? = some u → (W.alloc (.cells #[.int .u8 q.sort, .int .i64 q.n, .int .u64 q.u, .string q.s] 49)).cell? ((⟨W.heap.size, 0, none⟩ : Addr).add j) = some u :=
  World.news_of_block (heap_alloc_new W _)
def KyJ (w : World) (x : Th) (gi : Nat) (v : Value) (W : World) : Prop :=
  ∃ pos, pos ≤ (formK x.sort).length ∧ KS w x w.heap.size gi (formK x.sort) pos ((rowK x).take (pos + 1)) v W
set_option maxRecDepth 100000 in
set_option maxHeartbeats 4000000 in
theorem key_any {w : World} (x : Th) (hx : x.ok) (hs : x.sort.size ≤ 1000) (hn : x.name.size ≤ 1000) (m : Int) (hm : w.cell? ⟨0, 0, none⟩ = some (.int .i64 m)) :
    Calls Tryd.prog 22 #[x.val] w fun e w' => e = .returned (.tuple #[.string (bs (mkGo [] (rowK x)).1), .int .i64 (mkGo [] (rowK x)).2]) ∧ Below w.heap.size w w' := by
  obtain ⟨i0, hi, hz0, hz1, hz2⟩ := info_parts infoPart
  have HI := Lib.hid (And.intro hi (And.intro hz0 (And.intro hz1 hz2)))
  clear hi hz0 hz1 hz2
  have B0 := Lib.hid (heap_alloc_new w (.cells x.cells 24 (0, 0)))
  have hsz : (w.alloc (.cells x.cells 24 (0, 0))).heap.size = w.heap.size + 1 := by simp
  have TX := Lib.hid fun (W : World) => ktext_any x.sort (by omega) W
  have SH := Lib.hid fun (W : World) => shape_any x.sort W
  have HX := Lib.hid (And.intro hx (And.intro hn hm))
  have SZ := Lib.hid (show x.sort.size ≤ 9223372036854775807 by omega)
  clear hx hs hn hm
  obtain ⟨s, a, i, k, p, r, t, n⟩ := x
  show Calls Tryd.prog 22 #[.agg #[.string s, .int .u64 a, .int .u64 i, .int .i64 k, .int .i64 p, .int .u64 r, .int .u64 t, .string n]] w _
  go_enter Tryd.func22, Tryd.ntmps22
  go_wp2_with (first
    | (go_at_call 29; (with_reducible refine (TX.out _).mono ?_); rintro e w1 ⟨rfl, hb1⟩; have K1 := Lib.hid ((hb1.block w.heap.size (by simp)).trans B0.out); have c1 := cell_in (heap_old K1.out (.cells #[.int .u8 116, .int .i64 0, .int .u64 0, .string s] 49)) 0 (.string s) rfl; have HB1 := Lib.hid hb1; have hs1 := hb1.size; clear hb1)
    | (go_at_call 24; (with_reducible refine (SH.out _).mono ?_); rintro e w2 ⟨rfl, rfl⟩))
  have P0 : Hid (KyJ w ⟨s, a, i, k, p, r, t, n⟩ (w1.heap.size + 1) (.slice (some ⟨w1.heap.size, 0, none⟩) 1 1) ((w1.alloc (.cells #[.int .u8 116, .int .i64 0, .int .u64 0, .string s] 49)).iter (bs (formK s)) 0)) := by
    have hb := ((Below.refl w.heap.size w).alloc (Nat.le_refl _) _).trans (HB1.out.mono (by simp))
    refine ⟨0, by omega, (own_one hb.size (kText s)).alloc _, (hb.alloc hb.size _).alloc (by have := hb.size; simp; omega) _, heap_old (heap_old K1.out _) _, ?_, by have := hb.size; omega⟩
    exact heap_second w1 _ _
  go_loopw [4] (KyJ w ⟨s, a, i, k, p, r, t, n⟩ (w1.heap.size + 1)) (fun _ W => (formK s).length - W.iterPos (w1.heap.size + 1))
  case atStart => exact P0.out
  case round =>
    obtain ⟨pos, hp, K⟩ := hrel
    have hmeas := iterPos_of K.it
    have hlow := K.low
    have hL4 := formK_len s
    by_cases hlt : pos < (formK s).length
    · obtain ⟨hle, h128⟩ := formK_letters s _ (List.getElem_mem hlt)
      obtain ⟨W1, hnx, K2⟩ := ks_next K hlt h128
      have hW1 := K2.below.size
      obtain ⟨z0, z1, z2, z3, z4, z5, z6, z7⟩ := eight_cells K2.box
      have hlen : ((rowK ⟨s, a, i, k, p, r, t, n⟩).take (pos + 1)).length = pos + 1 := by have hp' : pos ≤ (formK s).length := hp; rw [List.length_take]; unfold rowK; simp; omega
      have HT : Hid ((rowK ⟨s, a, i, k, p, r, t, n⟩).take (pos + 1 + 1) = (rowK ⟨s, a, i, k, p, r, t, n⟩).take (pos + 1) ++ [partK (formK s)[pos] ⟨s, a, i, k, p, r, t, n⟩]) := by
        show _ = _
        rw [List.take_succ_eq_append_getElem (by unfold rowK; simp; exact hlt)]
        congr 2
        unfold rowK; simp
      have PT : Hid (∀ W : World, Calls Tryd.prog 26 #[.agg #[.string s, .int .u64 a, .int .u64 i, .int .i64 k, .int .i64 p, .int .u64 r, .int .u64 t, .string n], .int .i32 ((formK s)[pos].toNat : Int)] W fun e w' => e = .returned (partK (formK s)[pos] ⟨s, a, i, k, p, r, t, n⟩).agg ∧ Below W.heap.size W w') :=
        fun W => part_any (formK s)[pos] hle ⟨s, a, i, k, p, r, t, n⟩ (by have := HX.out.2.1; show n.size ≤ _; omega) W
      have PS := Lib.hid K2
      generalize (rowK ⟨s, a, i, k, p, r, t, n⟩).take (pos + 1) = L at HT PS hlen
      generalize partK (formK s)[pos] ⟨s, a, i, k, p, r, t, n⟩ = q at HT PT
      obtain ⟨q1, q2, q3, q4⟩ := q
      clear K K2 h128 hle P0
      generalize (formK s)[pos] = ch at hnx PT
      have hp4 : L.length ≤ 5 := by omega
      clear hlen
      have hlt' := Lib.hid hlt
      clear hlt
      go_wp2_with (first
        | (go_at_call 26; (with_reducible refine (PT.out _).mono ?_); rintro e w2 ⟨rfl, hb2⟩; have P2 := Lib.hid (ks_on PS.out hb2); have hs2 := hb2.size; clear hb2; simp only [KPart.agg])
        | (at_builtin
           refine wpList_append_lies _ rfl _ _ 44 rfl w.heap.size 49 i0 _ 4 40 Tryd.underlying44 HI.out.1 HI.out.2.1 HI.out.2.2.1 HI.out.2.2.2 rfl (by decide) u4 L.length (L.flatMap KPart.cells) rfl (ks_alloc P2.out _).own ⟨w2.heap.size, 0, none⟩ 1 1 (KPart.cells ⟨q1, q2, q3, q4⟩) rfl rfl (knews w2 ⟨q1, q2, q3, q4⟩) (cells_one _) (by omega) (by unfold maxLen; omega) (by omega) (by simp; omega) (w2.heap.size + 1) (by simp) ?_
           intro g cap w4 hown4 hgrow4 hwhere hlt4
           have HE := Lib.hid (And.intro hown4 hgrow4)
           clear hown4 hgrow4 hwhere hlt4))
      go_roundw
      case rel => exact ⟨pos + 1, hlt'.out, by rw [HT.out]; exact ks_grow (ks_alloc P2.out _) HE.out.2 (by rw [List.flatMap_append, List.length_append]; simpa using HE.out.1)⟩
      case measure =>
        have h1 := iterPos_of (ks_grow (ks_alloc P2.out _) HE.out.2 (l' := L ++ [⟨q1, q2, q3, q4⟩]) (by rw [List.flatMap_append, List.length_append]; simpa using HE.out.1)).it
        have h2 := hlt'.out
        simp only [h1, hmeas] at *; omega
    · have hnx := ks_end K hlt
      have hpe : (rowK ⟨s, a, i, k, p, r, t, n⟩).take (pos + 1) = rowK ⟨s, a, i, k, p, r, t, n⟩ := List.take_of_length_le (by unfold rowK; simp; omega)
      rw [hpe] at K
      obtain ⟨A, c, rfl, hpr⟩ := prow_of_owns K.own
      have hb := K.below
      have MK := Lib.hid (make_any (w := wr) A c (rowK ⟨s, a, i, k, p, r, t, n⟩) (by unfold rowK; simp; omega) hpr (fun q hq => ⟨rowK_ok HX.out.1 q hq, rowK_size (by have := HX.out.2; exact SZ.out) (by have := HX.out.2.1; show n.size ≤ _; omega) q hq⟩) m (cell0_below HX.out.2.2 hb))
      have HB := Lib.hid hb
      clear K hpr hb P0
      generalize hL : rowK ⟨s, a, i, k, p, r, t, n⟩ = L at MK
      replace hL := Lib.hid hL
      go_wp2_with (go_at_call 28; (with_reducible refine MK.out.mono ?_); rintro e w3 ⟨rfl, hb3⟩)
      go_ret2
      exact ⟨by rw [hL.out]; rfl, HB.out.trans (hb3.mono HB.out.size)⟩
end Go.Proofs.YtelbhegkaihjhaaDoor
