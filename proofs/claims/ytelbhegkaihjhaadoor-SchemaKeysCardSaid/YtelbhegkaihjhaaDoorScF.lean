/-
  The Go text of a market's keys, walked: what a key is of, gone through. Conditions: as each theorem states.
-/
import Derived.Test.YtelbhegkaihjhaaDoorScE
namespace Go.Proofs.YtelbhegkaihjhaaDoor
open Go.RowKit
open Vi

/-- the answer's box, a box of a thing, a text that is gone through, a row of parts -/
structure PG (w : World) (k6 gi g : Nat) (F : List UInt8) (L : List KPart) (pos : Nat) (x : Th) (W : World) : Prop where
  below : Below w.heap.size w W
  res : W.heap[w.heap.size]? = some (.cells (Th.zero ⟨#[]⟩).cells 24 (0, 0))
  box : W.heap[k6]? = some (.cells x.cells 24 (0, 0))
  it : W.heap[gi]? = some (.stringIter (bs F) pos)
  row : PAt W g L
  low : w.heap.size < g ∧ g < k6 ∧ k6 < gi
section
variable {w W W' : World} {k6 gi g : Nat} {F : List UInt8} {L : List KPart} {pos : Nat} {x : Th}
theorem pg_on (h : PG w k6 gi g F L pos x W) (hb : Below W.heap.size W W') : PG w k6 gi g F L pos x W' :=
  ⟨h.below.trans (hb.mono h.below.size), (hb.block _ (Array.getElem?_eq_some_iff.1 h.res).1).trans h.res, (hb.block _ (Array.getElem?_eq_some_iff.1 h.box).1).trans h.box, (hb.block _ (Array.getElem?_eq_some_iff.1 h.it).1).trans h.it, pat_below h.row hb, h.low⟩
theorem pg_drew (h : PG w k6 gi g F L pos x W) : PG w k6 gi g F L pos x W.drew := ⟨h.below.drew, h.res, h.box, h.it, h.row, h.low⟩
theorem pg_next (h : PG w k6 gi g F L pos x W) (hp : pos < F.length) (hc : F[pos].toNat < 128) : ∃ W1, (∀ ty, (Instr.next (.pointer (some ⟨gi, 0, none⟩)) true ty).run Tryd.prog W = .ok (.tuple #[.bool true, .int .i64 pos, .int .i32 (F[pos].toNat : Int)]) W1) ∧ PG w k6 gi g F L (pos + 1) x W1 := by
  have hz : pos < (bs F).size := by rw [bs_size]; exact hp
  have gr := iter_grown h.it (pos + 1)
  obtain ⟨l1, l2, l3⟩ := h.low
  have ne : ∀ k, k < gi → some k ≠ some gi := fun k hk e => by injection e with e; omega
  refine ⟨W.iterAt gi (bs F) (pos + 1), fun ty => Lib.run_next_ascii_at W gi (bs F) pos ty h.it hz hc, ?_⟩
  exact ⟨h.below.trans ⟨gr.os, gr.tape, gr.output, gr.size, fun k hlt => gr.block k (Nat.lt_of_lt_of_le hlt h.below.size) (ne k (by omega))⟩, (gr.block _ (Array.getElem?_eq_some_iff.1 h.res).1 (ne _ (by omega))).trans h.res, (gr.block _ (Array.getElem?_eq_some_iff.1 h.box).1 (ne _ l3)).trans h.box, Lib.iterAt_heap W gi (bs F) pos (pos + 1) h.it,
    pat_on h.row (fun q hq => World.cell?_of_block (gr.block q.block (by rw [hq]; exact h.row.1) (ne _ (by omega)))) gr.size, h.low⟩
theorem pg_end (h : PG w k6 gi g F L pos x W) (hp : ¬ pos < F.length) (ty : TypeId) : (Instr.next (.pointer (some ⟨gi, 0, none⟩)) true ty).run Tryd.prog W = .ok (.tuple #[.bool false]) W :=
  Lib.run_next_end_at W gi (bs F) pos ty h.it (by rw [bs_size]; exact hp)
theorem pg_take (h : PG w k6 gi g F L pos x W) {y : Th} (hr : W'.heap[k6]? = some (.cells y.cells 24 (0, 0))) (hg : W.grownBy W' (some k6)) : PG w k6 gi g F L pos y W' := by
  obtain ⟨l1, l2, l3⟩ := h.low
  have ne : ∀ k, k < k6 ∨ k6 < k → some k ≠ some k6 := fun k hk e => by injection e with e; omega
  exact ⟨h.below.trans ⟨hg.os, hg.tape, hg.output, hg.size, fun k hlt => hg.block k (Nat.lt_of_lt_of_le hlt h.below.size) (ne k (.inl (by omega)))⟩, (hg.block _ (Array.getElem?_eq_some_iff.1 h.res).1 (ne _ (.inl (by omega)))).trans h.res, hr, (hg.block _ (Array.getElem?_eq_some_iff.1 h.it).1 (ne _ (.inr l3))).trans h.it,
    pat_on h.row (fun q hq => World.cell?_of_block (hg.block q.block (by rw [hq]; exact h.row.1) (ne _ (.inl (by omega))))) hg.size, h.low⟩
end
theorem drew_alloc_below (W : World) (o : Obj) : Below W.heap.size W (W.drew.alloc o) := (Below.refl W.heap.size W).drew.alloc (Nat.le_refl _) o
theorem pg_cells {w W : World} {k6 gi g : Nat} {F : List UInt8} {p : KPart} {l : List KPart} {pos : Nat} {y1 y8 : ByteArray} {y2 y3 y6 y7 : Nat} {y4 y5 : Int} {q1 : Nat} {q2 : Int} {q3 : Nat} {q4 : ByteArray} (h : PG w k6 gi g F (p :: l) pos ⟨y1, y2, y3, y4, y5, y6, y7, y8⟩ W) {i : Nat} (hq : ∃ hi : i < l.length, l[i] = ⟨q1, q2, q3, q4⟩) :
    W.cell? ⟨k6, 0, none⟩ = some (.string y1) ∧ W.cell? ⟨k6, 1, none⟩ = some (.int .u64 y2) ∧ W.cell? ⟨k6, 2, none⟩ = some (.int .u64 y3) ∧ W.cell? ⟨k6, 3, none⟩ = some (.int .i64 y4) ∧ W.cell? ⟨k6, 4, none⟩ = some (.int .i64 y5) ∧ W.cell? ⟨k6, 5, none⟩ = some (.int .u64 y6) ∧ W.cell? ⟨k6, 6, none⟩ = some (.int .u64 y7) ∧ W.cell? ⟨k6, 7, none⟩ = some (.string y8) ∧
    W.cell? ⟨g, (1 + i) * 4, none⟩ = some (.int .u8 q1) ∧ W.cell? ⟨g, (1 + i) * 4 + 1, none⟩ = some (.int .i64 q2) ∧ W.cell? ⟨g, (1 + i) * 4 + 2, none⟩ = some (.int .u64 q3) ∧ W.cell? ⟨g, (1 + i) * 4 + 3, none⟩ = some (.string q4) := by
  obtain ⟨hi, hq⟩ := hq
  obtain ⟨a, b, c, d⟩ := h.row.2 (i + 1) (by simp; omega)
  have e : (p :: l)[i + 1]'(by simp; omega) = ⟨q1, q2, q3, q4⟩ := hq
  rw [e] at a b c d
  rw [Nat.add_comm i 1] at a b c d
  obtain ⟨z0, z1, z2, z3, z4, z5, z6, z7⟩ := eight_cells h.box
  exact ⟨z0, z1, z2, z3, z4, z5, z6, z7, a, b, c, d⟩
theorem takeK_name {c : UInt8} {x : Th} {p : KPart} (h : x.name.size ≤ 200) (hp : p.s.size ≤ 200) : (takeK c x p).name.size ≤ 200 := by
  unfold takeK
  split
  · exact h
  split
  · exact h
  split
  · exact h
  split
  · exact h
  split
  · exact h
  split
  · exact h
  split
  · exact hp
  · exact h
def PgJ (w : World) (k6 gi g : Nat) (F : List UInt8) (p : KPart) (l : List KPart) (_v : Value) (W : World) : Prop :=
  ∃ (pos : Nat) (x : Th), pos ≤ F.length ∧ x.name.size ≤ 200 ∧ goK (F.drop pos) (l.drop pos) x = goK F l (Th.zero p.s) ∧ PG w k6 gi g F (p :: l) pos x W
set_option maxRecDepth 100000 in
set_option maxHeartbeats 4000000 in
theorem parse_go {w : World} (K : List UInt8) (hK : K.length ≤ 200) (m : Int) (hm : Cell0 m w) (p : KPart) (l : List KPart) (h : pparts K = some (p :: l)) (hs : ∀ q ∈ l, q.s.size ≤ 200) (F : List UInt8) (hf : formK p.s = F) (h0 : ¬ F = []) (hl : l.length = F.length) :
    Calls Tryd.prog 10 #[.string (bs K)] w fun e w' => e = .returned (thOut (goK F l (Th.zero p.s))) ∧ Below w.heap.size w w' := by
  have HP := Lib.hid fun (W : World) (h1 : Cell0 m W) => parts_at (w := W) K hK p l h m h1
  have HM := Lib.hid (cell0_alloc hm (.cells #[.string ⟨#[]⟩, .int .u64 0, .int .u64 0, .int .i64 0, .int .i64 0, .int .u64 0, .int .u64 0, .string ⟨#[]⟩] 24 (0, 0)))
  have SH : Hid (∀ W : World, Calls Tryd.prog 24 #[.string p.s] W fun e w' => e = .returned (.string (bs F)) ∧ W = w') := fun W => by have := shape_any p.s W; rw [hf] at this; exact this
  have LT : Hid (∀ c ∈ F, Letter c ∧ c.toNat < 128) := by rw [← hf]; exact formK_letters p.s
  have hbl := bs_list
  have hbz := bs_size
  have hF4 : F.length ≤ 4 := by rw [← hf]; exact formK_len _
  have h0b : (F == []) = false := by cases F with | nil => exact absurd rfl h0 | cons => rfl
  have hne : (((l.length : Int) + 1) != 1 + (F.length : Int)) = false := by simp; omega
  have HL := Lib.hid hl
  have HS := Lib.hid hs
  clear hm h hf h0 hl hs
  go_enter Tryd.func10, Tryd.ntmps10
  go_wp2_with (go_at_call 23; (with_reducible refine (HP.out _ HM.out).mono ?_); rintro e w1 ⟨⟨g, c, rfl, hgw, hpr⟩, hb⟩; obtain ⟨x0, x1, x2, x3⟩ := hpr.2 0 (by simp); have X3 : w1.cell? ⟨g, 3, none⟩ = some (.string p.s) := x3; have hlt := hpr.1; replace hpr := Lib.hid hpr; clear x0 x1 x2 x3; have R1 := zero_row hb; have hwl := (Array.getElem?_eq_some_iff.1 R1).1; have B1 := Lib.hid (alloc_below hb); obtain ⟨c0, c1, c2, c3, c4, c5, c6, c7⟩ := eight_cells R1; have f0 := free_in R1 0; have f1 := free_in R1 1; have f2 := free_in R1 2; have f3 := free_in R1 3; have f4 := free_in R1 4; have f5 := free_in R1 5; have f6 := free_in R1 6; have f7 := free_in R1 7; replace R1 := Lib.hid R1; clear hb)
  have X0 : SX w1 g p w1 := ⟨hlt, X3, Below.refl _ _⟩
  go_region_held3 (fun wx => SX w1 g p wx ∧ wx.cell? ⟨g, 3, none⟩ = some (.string p.s)) (first | exact ⟨X0, X3⟩ | exact ⟨sx_drew X0, X3⟩ | exact ⟨sx_drew (sx_alloc X0 _), sx_cell (sx_drew (sx_alloc X0 _))⟩) ((go_at_call 24; (with_reducible refine (SH.out _).mono ?_); rintro e w2 ⟨rfl, rfl⟩))
  all_goals
    have PQ : Hid (PgJ w w1.heap.size (w1.heap.size + 1) g F p l undef ((w1.alloc (.cells #[.string p.s, .int .u64 0, .int .u64 0, .int .i64 0, .int .i64 0, .int .u64 0, .int .u64 0, .string ⟨#[]⟩] 24)).drew.iter (bs F) 0)) := by
      have hb2 := B1.out.alloc B1.out.size (.cells #[.string p.s, .int .u64 0, .int .u64 0, .int .i64 0, .int .i64 0, .int .u64 0, .int .u64 0, .string ⟨#[]⟩] 24)
      refine ⟨0, Th.zero p.s, by omega, by show (⟨#[]⟩ : ByteArray).size ≤ 200; decide, rfl, hb2.drew.alloc hb2.size _, heap_old (heap_old R1.out _) _, heap_old (heap_alloc_new w1 _) _, ?_, ?_, ?_⟩
      · exact heap_second w1 _ _
      · exact pat_below (pat_below hpr.out ((Below.refl _ _).alloc (Nat.le_refl _) (.cells #[.string p.s, .int .u64 0, .int .u64 0, .int .i64 0, .int .i64 0, .int .u64 0, .int .u64 0, .string ⟨#[]⟩] 24))) (drew_alloc_below _ _)
      · have : w.heap.size + 1 ≤ g := by simpa using hgw
        omega
    go_wp2
    go_loopw [8] (PgJ w w1.heap.size (w1.heap.size + 1) g F p l) (fun _ W => F.length - W.iterPos (w1.heap.size + 1))
    case atStart => exact PQ.out
    case round =>
      obtain ⟨pos, x, hpos, hxn, hgo, G⟩ := hrel
      have hmeas := iterPos_of G.it
      obtain ⟨l1, l2, l3⟩ := G.low
      have hbw := G.below.size
      by_cases hlt : pos < F.length
      · obtain ⟨hle, h128⟩ := LT.out _ (List.getElem_mem hlt)
        have hll : pos < l.length := by rw [HL.out]; exact hlt
        have hd1 : F.drop pos = F[pos] :: F.drop (pos + 1) := List.drop_eq_getElem_cons hlt
        have hd2 : l.drop pos = l[pos] :: l.drop (pos + 1) := List.drop_eq_getElem_cons hll
        rw [hd1, hd2] at hgo
        clear hd1 hd2
        obtain ⟨W1, hnx, G1⟩ := pg_next G hlt h128
        have hqs := HS.out l[pos] (List.getElem_mem hll)
        have TK := take_any (w := W1) w1.heap.size F[pos] hle x l[pos] G1.box
        have hyn := takeK_name (c := F[pos]) hxn hqs
        have PT := fun (W : World) => part_any F[pos] hle (takeK F[pos] x l[pos]) (by omega) W
        generalize hq : l[pos] = q at TK hyn PT hgo hqs
        generalize F[pos] = ch at TK hyn PT hgo hnx
        have hgo' : Hid (goK (ch :: F.drop (pos + 1)) (q :: l.drop (pos + 1)) x = goK F l (Th.zero p.s)) := hgo
        by_cases heq : partK ch (takeK ch x q) = q
        · have HG : Hid (goK (F.drop (pos + 1)) (l.drop (pos + 1)) (takeK ch x q) = goK F l (Th.zero p.s)) := by rw [Hid, ← hgo'.out, goK_on heq]
          rw [heq] at PT
          have hv := pneq_false (show q = q from rfl)
          generalize takeK ch x q = y at TK hyn PT HG
          clear hgo hgo' heq G
          obtain ⟨q1, q2, q3, q4⟩ := q
          obtain ⟨y1, y2, y3, y4, y5, y6, y7, y8⟩ := y
          have hnq := neq_part ⟨q1, q2, q3, q4⟩ ⟨q1, q2, q3, q4⟩
          have TK' : Hid (Calls Tryd.prog 25 #[.pointer (some ⟨w1.heap.size, 0, none⟩), .int .i32 (ch.toNat : Int), .agg #[.int .u8 q1, .int .i64 q2, .int .u64 q3, .string q4]] W1 (TkPost W1 w1.heap.size (Th.cells ⟨y1, y2, y3, y4, y5, y6, y7, y8⟩))) := TK
          have PT' : Hid (∀ W : World, Calls Tryd.prog 26 #[.agg #[.string y1, .int .u64 y2, .int .u64 y3, .int .i64 y4, .int .i64 y5, .int .u64 y6, .int .u64 y7, .string y8], .int .i32 (ch.toNat : Int)] W fun e w' => e = .returned (.agg #[.int .u8 q1, .int .i64 q2, .int .u64 q3, .string q4]) ∧ Below W.heap.size W w') := PT
          clear TK PT
          have XQ : Hid (∃ hi : pos < l.length, l[pos] = ⟨q1, q2, q3, q4⟩) := ⟨hll, hq⟩
          obtain ⟨b0, b1, b2, b3⟩ := G1.row.2 (pos + 1) (by simp; omega)
          have eq1 : (p :: l)[pos + 1]'(by simp; omega) = ⟨q1, q2, q3, q4⟩ := hq
          rw [eq1] at b0 b1 b2 b3
          rw [Nat.add_comm pos 1] at b0 b1 b2 b3
          have hbd : pos + 1 ≤ l.length := hll
          have hi0 : (0 : Int) ≤ 1 + (pos : Int) := by omega
          have hi1 : (1 : Int) + (pos : Int) < (l.length : Int) + 1 := by omega
          have hi2 : ((1 : Int) + (pos : Int)).toNat = 1 + pos := by omega
          have hp5 : pos ≤ 4 := by omega
          have hw2 : IntKind.i64.wrap (1 + (pos : Int)) = 1 + pos := IntWalk.i64_in _ (by omega)
          have hw3 : wrap64 (1 + (pos : Int)) = 1 + pos := IntWalk.wrap64_in _ (by omega)
          have G1' := Lib.hid G1
          have hlt' := Lib.hid hlt
          have hW1 := G1.below.size
          simp only at b0 b1 b2 b3 hnq hv
          clear hq eq1 G1 hll hlt hle h128 hqs
          go_wp2_with (go_at_call 25; (with_reducible refine TK'.out.mono ?_); rintro e w2 ⟨rfl, hr2, hg2⟩; have G2 := pg_take G1'.out hr2 hg2; have C2 := pg_cells G2 XQ.out)
          go_region_held3 (fun wx => PG w w1.heap.size (w1.heap.size + 1) g F (p :: l) (pos + 1) ⟨y1, y2, y3, y4, y5, y6, y7, y8⟩ wx ∧ wx.cell? ⟨w1.heap.size, 0, none⟩ = some (.string y1) ∧ wx.cell? ⟨w1.heap.size, 1, none⟩ = some (.int .u64 y2) ∧ wx.cell? ⟨w1.heap.size, 2, none⟩ = some (.int .u64 y3) ∧ wx.cell? ⟨w1.heap.size, 3, none⟩ = some (.int .i64 y4) ∧ wx.cell? ⟨w1.heap.size, 4, none⟩ = some (.int .i64 y5) ∧ wx.cell? ⟨w1.heap.size, 5, none⟩ = some (.int .u64 y6) ∧ wx.cell? ⟨w1.heap.size, 6, none⟩ = some (.int .u64 y7) ∧ wx.cell? ⟨w1.heap.size, 7, none⟩ = some (.string y8) ∧ wx.cell? ⟨g, (1 + pos) * 4, none⟩ = some (.int .u8 q1) ∧ wx.cell? ⟨g, (1 + pos) * 4 + 1, none⟩ = some (.int .i64 q2) ∧ wx.cell? ⟨g, (1 + pos) * 4 + 2, none⟩ = some (.int .u64 q3) ∧ wx.cell? ⟨g, (1 + pos) * 4 + 3, none⟩ = some (.string q4))
            (first | exact ⟨G2, C2⟩ | exact ⟨pg_drew G2, pg_cells (pg_drew G2) XQ.out⟩ | exact ⟨pg_on (pg_drew G2) hb3, pg_cells (pg_on (pg_drew G2) hb3) XQ.out⟩)
            ((go_at_call 26; (with_reducible refine (PT'.out _).mono ?_); rintro e w3 ⟨rfl, hb3⟩))
          all_goals
            go_wp2
            go_roundw
            case rel => exact ⟨pos + 1, _, hlt'.out, hyn, HG.out, by exact pg_on (pg_drew G2) hb3⟩
            case measure =>
              have h2 := hlt'.out
              have h1 : w3.iterPos (w1.heap.size + 1) = pos + 1 := iterPos_of (pg_on (pg_drew G2) hb3).it
              rw [h1, hmeas]; exact Nat.sub_lt_sub_left h2 (Nat.lt_succ_self pos)
        · have HG : Hid (goK F l (Th.zero p.s) = none) := by rw [Hid, ← hgo'.out, goK_off heq]
          have hv := pneq_true heq
          generalize hrp : partK ch (takeK ch x q) = r at PT hv
          generalize takeK ch x q = y at TK hyn PT
          clear hgo hgo' heq G hrp
          obtain ⟨q1, q2, q3, q4⟩ := q
          obtain ⟨r1, r2, r3, r4⟩ := r
          obtain ⟨y1, y2, y3, y4, y5, y6, y7, y8⟩ := y
          have hnq := neq_part ⟨r1, r2, r3, r4⟩ ⟨q1, q2, q3, q4⟩
          have TK' : Hid (Calls Tryd.prog 25 #[.pointer (some ⟨w1.heap.size, 0, none⟩), .int .i32 (ch.toNat : Int), .agg #[.int .u8 q1, .int .i64 q2, .int .u64 q3, .string q4]] W1 (TkPost W1 w1.heap.size (Th.cells ⟨y1, y2, y3, y4, y5, y6, y7, y8⟩))) := TK
          have PT' : Hid (∀ W : World, Calls Tryd.prog 26 #[.agg #[.string y1, .int .u64 y2, .int .u64 y3, .int .i64 y4, .int .i64 y5, .int .u64 y6, .int .u64 y7, .string y8], .int .i32 (ch.toNat : Int)] W fun e w' => e = .returned (.agg #[.int .u8 r1, .int .i64 r2, .int .u64 r3, .string r4]) ∧ Below W.heap.size W w') := PT
          clear TK PT
          have XQ : Hid (∃ hi : pos < l.length, l[pos] = ⟨q1, q2, q3, q4⟩) := ⟨hll, hq⟩
          obtain ⟨b0, b1, b2, b3⟩ := G1.row.2 (pos + 1) (by simp; omega)
          have eq1 : (p :: l)[pos + 1]'(by simp; omega) = ⟨q1, q2, q3, q4⟩ := hq
          rw [eq1] at b0 b1 b2 b3
          rw [Nat.add_comm pos 1] at b0 b1 b2 b3
          have hbd : pos + 1 ≤ l.length := hll
          have hi0 : (0 : Int) ≤ 1 + (pos : Int) := by omega
          have hi1 : (1 : Int) + (pos : Int) < (l.length : Int) + 1 := by omega
          have hi2 : ((1 : Int) + (pos : Int)).toNat = 1 + pos := by omega
          have hp5 : pos ≤ 4 := by omega
          have hw2 : IntKind.i64.wrap (1 + (pos : Int)) = 1 + pos := IntWalk.i64_in _ (by omega)
          have hw3 : wrap64 (1 + (pos : Int)) = 1 + pos := IntWalk.wrap64_in _ (by omega)
          have G1' := Lib.hid G1
          have hlt' := Lib.hid hlt
          have hW1 := G1.below.size
          simp only at b0 b1 b2 b3 hnq hv
          clear hq eq1 G1 hll hlt hle h128 hqs
          go_wp2_with (go_at_call 25; (with_reducible refine TK'.out.mono ?_); rintro e w2 ⟨rfl, hr2, hg2⟩; have G2 := pg_take G1'.out hr2 hg2; have C2 := pg_cells G2 XQ.out)
          go_region_held3 (fun wx => PG w w1.heap.size (w1.heap.size + 1) g F (p :: l) (pos + 1) ⟨y1, y2, y3, y4, y5, y6, y7, y8⟩ wx ∧ wx.cell? ⟨w1.heap.size, 0, none⟩ = some (.string y1) ∧ wx.cell? ⟨w1.heap.size, 1, none⟩ = some (.int .u64 y2) ∧ wx.cell? ⟨w1.heap.size, 2, none⟩ = some (.int .u64 y3) ∧ wx.cell? ⟨w1.heap.size, 3, none⟩ = some (.int .i64 y4) ∧ wx.cell? ⟨w1.heap.size, 4, none⟩ = some (.int .i64 y5) ∧ wx.cell? ⟨w1.heap.size, 5, none⟩ = some (.int .u64 y6) ∧ wx.cell? ⟨w1.heap.size, 6, none⟩ = some (.int .u64 y7) ∧ wx.cell? ⟨w1.heap.size, 7, none⟩ = some (.string y8) ∧ wx.cell? ⟨g, (1 + pos) * 4, none⟩ = some (.int .u8 q1) ∧ wx.cell? ⟨g, (1 + pos) * 4 + 1, none⟩ = some (.int .i64 q2) ∧ wx.cell? ⟨g, (1 + pos) * 4 + 2, none⟩ = some (.int .u64 q3) ∧ wx.cell? ⟨g, (1 + pos) * 4 + 3, none⟩ = some (.string q4))
            (first | exact ⟨G2, C2⟩ | exact ⟨pg_drew G2, pg_cells (pg_drew G2) XQ.out⟩ | exact ⟨pg_on (pg_drew G2) hb3, pg_cells (pg_on (pg_drew G2) hb3) XQ.out⟩)
            ((go_at_call 26; (with_reducible refine (PT'.out _).mono ?_); rintro e w3 ⟨rfl, hb3⟩))
          all_goals
            have G3 := pg_on (pg_drew G2) hb3
            obtain ⟨e0, e1, e2, e3, e4, e5, e6, e7⟩ := eight_cells G3.res; have f0 := free_in G3.res 0; have f1 := free_in G3.res 1; have f2 := free_in G3.res 2; have f3 := free_in G3.res 3; have f4 := free_in G3.res 4; have f5 := free_in G3.res 5; have f6 := free_in G3.res 6; have f7 := free_in G3.res 7
            have R3 := Lib.hid G3.res
            have B3 := Lib.hid G3.below
            have hz3 := (Array.getElem?_eq_some_iff.1 G3.res).1
            clear G3 G2 C2
            go_wp2
            exact ret_thing (Th.zero ⟨#[]⟩) rfl rfl rfl rfl (eight_set R3.out _ _ _ _ _ _ _ _) ⟨by rw [HG.out]; rfl, eight_below B3.out (Nat.le_refl _) _ _ _ _ _ _ _ _⟩
      · have hnx := pg_end G hlt
        have hpe : pos = F.length := by omega
        have HG : Hid (goK F l (Th.zero p.s) = some x) := by
          rw [Hid, ← hgo, hpe, List.drop_length, ← HL.out, List.drop_length]; rfl
        clear hgo hpe
        obtain ⟨y1, y2, y3, y4, y5, y6, y7, y8⟩ := x
        obtain ⟨z0, z1, z2, z3, z4, z5, z6, z7⟩ := eight_cells G.box
        obtain ⟨e0, e1, e2, e3, e4, e5, e6, e7⟩ := eight_cells G.res; have f0 := free_in G.res 0; have f1 := free_in G.res 1; have f2 := free_in G.res 2; have f3 := free_in G.res 3; have f4 := free_in G.res 4; have f5 := free_in G.res 5; have f6 := free_in G.res 6; have f7 := free_in G.res 7
        have R3 := Lib.hid G.res
        have B3 := Lib.hid G.below
        clear G
        go_wp2
        exact ret_thing ⟨y1, y2, y3, y4, y5, y6, y7, y8⟩ rfl rfl rfl rfl (eight_set R3.out _ _ _ _ _ _ _ _) ⟨by rw [HG.out]; rfl, eight_below B3.out (Nat.le_refl _) _ _ _ _ _ _ _ _⟩
theorem parse_all {w : World} (K : List UInt8) (hK : K.length ≤ 1000) (m : Int) (hm : Cell0 m w) :
    Calls Tryd.prog 10 #[.string (bs K)] w fun e w' => e = .returned (thOut (parseK K)) ∧ Below w.heap.size w w' := by
  unfold parseK
  by_cases h2 : 200 < K.length
  · rw [if_pos h2]; exact parse_bad K hK m hm (.inl h2)
  · rw [if_neg h2]
    cases hp : pparts K with
    | none => exact parse_bad K hK m hm (.inr hp)
    | some a =>
      obtain ⟨_, hr⟩ := pparts_back K.length K a (Nat.le_refl _) (by omega) hp
      match a, hp, hr with
      | [], hp, _ => exact parse_none K (by omega) m hm hp
      | p :: l, hp, hr =>
        show Calls _ _ _ _ fun e w' => e = .returned (thOut (rowParse (p :: l))) ∧ _
        by_cases h0 : formK p.s = []
        · rw [rowParse_no (.inl h0)]; exact parse_noform K (by omega) m hm p l hp h0
        · by_cases hl : l.length = (formK p.s).length
          · rw [rowParse_on rfl h0 hl]
            exact parse_go K (by omega) m hm p l hp (fun q hq => (hr q (by simp [hq])).2.2.2) _ rfl h0 hl
          · rw [rowParse_no (.inr hl)]; exact parse_length K (by omega) m hm p l hp _ rfl h0 hl
end Go.Proofs.YtelbhegkaihjhaaDoor
