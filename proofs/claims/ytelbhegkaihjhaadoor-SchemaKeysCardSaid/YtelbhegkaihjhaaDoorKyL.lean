/-
  The Go text that reads a key's parts, walked. Conditions: as each theorem states.
-/
import Derived.Test.YtelbhegkaihjhaaDoorKyK
import Derived.Deep.AppendLies
namespace Go.Proofs.YtelbhegkaihjhaaDoor
open Go.RowKit
open Vi

theorem infoPart : (Tryd.prog.info? 49).map (fun i => (i.zero, i.size, i.bytes)) = some (some (.agg #[.int .u8 0, .int .i64 0, .int .u64 0, .string ⟨#[]⟩]), 4, 40) := by kernel_rfl
def PtJ (K : List UInt8) (w : World) (k v : Value) (wr : World) : Prop :=
  ∃ (a : List KPart) (l : List UInt8), (pparts l).map (a ++ ·) = pparts K ∧ a.length + l.length ≤ K.length ∧ k = .string (bs l) ∧ wr.ownsRow w.heap.size 49 4 v a.length (a.flatMap KPart.cells) ∧ Below w.heap.size w wr
def PartsPost (K : List UInt8) (w : World) (e : Ending) (w' : World) : Prop :=
  ((∃ v a, e = .returned (.tuple #[v, .int .i64 0]) ∧ K.length ≤ 200 ∧ pparts K = some a ∧ w'.ownsRow w.heap.size 49 4 v a.length (a.flatMap KPart.cells)) ∨
    (e = .returned (.tuple #[.slice none 0 0, .int .i64 19]) ∧ (200 < K.length ∨ pparts K = none))) ∧ Below w.heap.size w w'
theorem owns_below {w wr w1 : World} {v : Value} {n : Nat} {xs : List Value} (h : wr.ownsRow w.heap.size 49 4 v n xs) (b : Below wr.heap.size wr w1) : w1.ownsRow w.heap.size 49 4 v n xs :=
  h.kept (row := none) ⟨b.os, b.tape, b.output, b.size, fun k hk _ => b.block k hk⟩ (by cases v.ownBlock <;> simp)
theorem below_grown {w wr w4 : World} {v : Value} {n : Nat} {xs : List Value} (hb : Below w.heap.size w wr) (h : wr.ownsRow w.heap.size 49 4 v n xs) (hg : wr.grownBy w4 v.ownBlock) : Below w.heap.size w w4 :=
  hb.trans ⟨hg.os, hg.tape, hg.output, hg.size, fun k hk => hg.block k (Nat.lt_of_lt_of_le hk hb.size) fun e => by have := (h.lt k e.symm).1; omega⟩
theorem news_second (w1 : World) (q : KPart) : ∀ j u, q.cells[j]? = some u → ((w1.alloc (.cells #[.int .u8 q.sort, .int .i64 q.n, .int .u64 q.u, .string q.s] 49)).alloc (.cells #[.int .u8 q.sort, .int .i64 q.n, .int .u64 q.u, .string q.s] 49)).cell? ((⟨w1.heap.size + 1, 0, none⟩ : Addr).add j) = some u := by
  have hn := heap_alloc_new (w1.alloc (.cells #[.int .u8 q.sort, .int .i64 q.n, .int .u64 q.u, .string q.s] 49)) (.cells #[.int .u8 q.sort, .int .i64 q.n, .int .u64 q.u, .string q.s] 49)
  have hA : (w1.alloc (.cells #[.int .u8 q.sort, .int .i64 q.n, .int .u64 q.u, .string q.s] 49)).heap.size = w1.heap.size + 1 := by simp
  rw [hA] at hn
  exact World.news_of_block hn
set_option maxRecDepth 100000 in
set_option maxHeartbeats 2000000 in
theorem parts_any {w : World} (K : List UInt8) (hK : K.length ≤ 1000) (m : Int) (hm : w.cell? ⟨0, 0, none⟩ = some (.int .i64 m)) :
    Calls Tryd.prog 23 #[.string (bs K)] w (PartsPost K w) := by
  have HM := Lib.hid hm
  clear hm
  have hbz := bs_size
  by_cases h2 : 200 < K.length
  · go_enter Tryd.func23, Tryd.ntmps23
    go_wp2
    go_ret2
    exact ⟨.inr ⟨rfl, .inl h2⟩, Below.refl _ _⟩
  obtain ⟨i0, hi, hz0, hz1, hz2⟩ := info_parts infoPart
  have HI := Lib.hid (And.intro hi (And.intro hz0 (And.intro hz1 hz2)))
  clear hi hz0 hz1 hz2
  go_enter Tryd.func23, Tryd.ntmps23
  go_wp2
  go_loopw [0, 4] (PtJ K w) (fun k _ _ => strLen k)
  case atStart => exact ⟨[], K, by cases pparts K <;> rfl, by simp, rfl, World.ownsRow_nil _ _ _ _, Below.refl _ _⟩
  case round =>
    obtain ⟨a, l, hu, hl, rfl, hown, hb⟩ := hrel
    have HO := Lib.hid hown
    have HB := Lib.hid hb
    clear hown hb
    match l with
    | [] =>
      have HU : Hid (pparts K = some a) := by show _ = _; rw [← hu, pparts_nil]; simp
      clear hu
      go_wp2
      go_ret2
      exact ⟨.inl ⟨_, a, rfl, by omega, HU.out, HO.out⟩, HB.out⟩
    | c0 :: l0 =>
      have hS : 0 < (c0 :: l0).length := by simp
      generalize c0 :: l0 = l at hu hl hS
      have HF := first_any (w := wr) (bs l) (by rw [bs_size]; exact hS) (by rw [bs_size]; omega) m (cell0_below HM.out HB.out)
      rw [bs_toList] at HF
      cases hq : pfirst l with
      | none =>
        have HU : Hid (pparts K = none) := by show _ = _; rw [← hu, pparts_none hS hq]; rfl
        rw [hq] at HF
        have HF := Lib.hid HF
        clear hu hq
        go_wp2_with (go_at_call 37; refine HF.out.mono ?_; rintro e w1 ⟨rfl, b1⟩; simp only [fval])
        go_ret2
        exact ⟨.inr ⟨rfl, .inr HU.out⟩, (HB.out.trans (b1.mono HB.out.size)).alloc (by have := HB.out.size; have := b1.size; omega) _⟩
      | some x =>
        obtain ⟨⟨q1, q2, q3, q4⟩, r⟩ := x
        have hlen := pfirst_len hq
        have hsz := HB.out.size
        have hl' := hl
        have HU : Hid ((pparts r).map ((a ++ [⟨q1, q2, q3, q4⟩]) ++ ·) = pparts K) := by
          show _ = _; rw [← hu, pparts_some hq]; cases pparts r <;> simp
        rw [hq] at HF
        have HF := Lib.hid HF
        clear hu hq
        clear hl'
        go_wp2_with (first
          | (go_at_call 37; refine HF.out.mono ?_; rintro e w1 ⟨rfl, b1⟩; simp only [fval])
          | (at_builtin
             have hs1 := b1.size
             refine wpList_append_lies _ rfl _ _ 44 rfl w.heap.size 49 i0 _ 4 40 Tryd.underlying44 HI.out.1 HI.out.2.1 HI.out.2.2.1 HI.out.2.2.2 rfl (by decide) u4 a.length (a.flatMap KPart.cells) rfl (((owns_below HO.out b1).alloc _).alloc _) ⟨w1.heap.size + 1, 0, none⟩ 1 1 (KPart.cells ⟨q1, q2, q3, q4⟩) rfl rfl (news_second w1 ⟨q1, q2, q3, q4⟩) ?c2 (by omega) (by unfold maxLen; omega) (by omega) (by simp; omega) (w1.heap.size + 2) (by simp) ?_
             case c2 => intro x hx; simp [KPart.cells] at hx; rcases hx with rfl | rfl | rfl | rfl <;> rfl
             intro g cap w4 hown4 hgrow4 hwhere hlt4
             have HE := Lib.hid (And.intro hown4 hgrow4)
             clear hown4 hgrow4 hwhere hlt4))
        go_roundw
        case rel => exact ⟨a ++ [⟨q1, q2, q3, q4⟩], r, HU.out, by simp; omega, rfl, by rw [List.flatMap_append, List.length_append]; simpa using HE.out.1, below_grown (((HB.out.trans (b1.mono HB.out.size)).alloc (by have := HB.out.size; omega) _).alloc (by have := HB.out.size; simp; omega) _) (((owns_below HO.out b1).alloc _).alloc _) HE.out.2⟩
        case measure => simp [strLen, bs_size]; omega
end Go.Proofs.YtelbhegkaihjhaaDoor
