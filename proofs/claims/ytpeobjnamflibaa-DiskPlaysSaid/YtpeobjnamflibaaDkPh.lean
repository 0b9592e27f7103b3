/-
  The law's arguments opened: a row of acts, each with its fates. Conditions: as each theorem states.
-/
import Derived.Test.YtpeobjnamflibaaDkPg
import Derived.Test.YtpeobjnamflibaaLaw
import Derived.Deep.SlicePairs
namespace Go.Proofs.Ytpeobjnamflibaa.Dk
open Go.RowKit Go.ChangeShapes Go.WideShapes Go.ChangeAt
theorem cell_lt {w : World} {p : Addr} {v : Value} (h : w.cell? p = some v) : p.block < w.heap.size := by
  rcases Nat.lt_or_ge p.block w.heap.size with h' | h'
  · exact h'
  · unfold World.cell? at h
    rw [Array.getElem?_eq_none h'] at h
    simp at h
theorem cellsFate : Try.prog.cellsOf 65 = 3 := by kernel_rfl
theorem cellsDAct : Try.prog.cellsOf 32 = 6 := by kernel_rfl
theorem cellsI : Try.prog.cellsOf 3 = 1 := by kernel_rfl
theorem cellsS : Try.prog.cellsOf 9 = 1 := by kernel_rfl
theorem cellsB : Try.prog.cellsOf 5 = 1 := by kernel_rfl
theorem cellsFs : Try.prog.cellsOf 30 = 1 := by kernel_rfl
def FCells (W : World) (q : Addr) (f : FateS) : Prop := W.cell? q = some (.int .i64 f.keep) ∧ W.cell? ⟨q.block, q.off + 1, none⟩ = some (.int .i64 f.plc) ∧ W.cell? ⟨q.block, q.off + 2, none⟩ = some (.int .u8 (f.turn.toNat : Int))
theorem u8_of {n : Int} (w0 : (Lit.int .u8 n).wf = true) : ∃ b : UInt8, n = (b.toNat : Int) := by
  have hx : 0 ≤ n ∧ n ≤ 255 := by simpa [Lit.wf, IntKind.min, IntKind.max, IntKind.signed, IntKind.bits] using w0
  refine ⟨UInt8.ofNat n.toNat, ?_⟩
  rw [UInt8.toNat_ofNat']
  omega
set_option maxRecDepth 100000 in
theorem open_fate {H : Type} {enc : TypeId × Value → H} {W : World} {fuel : Nat} {cs : List Value} {x : DataW H × List MemPlace} {q : Addr}
    (h1 : W.cells? 0 q 3 = some cs) (h2 : DataW.trod enc Try.prog W 0 (fun _ => true) true fuel 65 cs = some x) : ∃ f : FateS, FCells W q f := by
  obtain ⟨_, hlen, hcell⟩ := World.cells?_some h1
  obtain ⟨xs, k, hk, hxy, _, hxl, hf⟩ := DataW.trod_struct Try.underlying65 h2
  match xs, hxl, cs, hlen with
  | [y0, y1, y2], _, [v0, v1, v2], _ =>
    have g0 := hf 0 _ rfl
    have g1 := hf 1 _ rfl
    have g2 := hf 2 _ rfl
    simp [cellsI, cellsB] at g0 g1 g2
    obtain ⟨n0, e0, _, w0⟩ := DataW.trod_int Try.underlying3 g0
    obtain ⟨n1, e1, _, w1⟩ := DataW.trod_int Try.underlying3 g1
    obtain ⟨n2, e2, _, w2⟩ := DataW.trod_int Try.underlying5 g2
    obtain ⟨b, rfl⟩ := u8_of w2
    have c0 := hcell 0 (by omega)
    have c1 := hcell 1 (by omega)
    have c2 := hcell 2 (by omega)
    refine ⟨⟨n0, n1, b⟩, ?_, ?_, ?_⟩
    · rw [show q = q.add 0 from rfl, c0]; simpa using e0
    · show W.cell? (q.add 1) = _; rw [c1]; simpa using e1
    · show W.cell? (q.add 2) = _; rw [c2]; simpa using e2
/-- fates in memory, with where their row lies -/
def FatesIn (W : World) (fa : Option Addr) (fl fc : Nat) : Prop :=
  ∃ fates : List FateS, FatesAt W (.slice fa fl fc) fates ∧ (0 < fates.length → ∀ a n c, (Value.slice fa fl fc) = .slice (some a) n c → a.block < W.heap.size)
theorem open_fates {H : Type} {enc : TypeId × Value → H} {W : World} {cs : List Value} {fuel : Nat} {x : DataW H × List MemPlace}
    (h : DataW.trod enc Try.prog W 0 (fun _ => true) true fuel 30 cs = some x) :
    ∃ fa fl fc, cs = [.slice fa fl fc] ∧ FatesIn W fa fl fc ∧ fl ≤ 9223372036854775807 := by
  rcases Go.Deep.open_slice Try.underlying30 h with ⟨hcs, _⟩ | ⟨a, n, c, m, nf, D, Pl, hcs, hb, hl, hm, hmm, hx, hcell⟩
  · exact ⟨none, 0, 0, hcs, ⟨[], ⟨⟨none, 0, rfl⟩, fun h => by cases h⟩, fun h => by cases h⟩, by decide⟩
  · have hm2 : m = c := by simpa using hmm
    subst hm2
    unfold maxLen at hm
    refine ⟨some a, n, m, hcs, ?_, by omega⟩
    have each : ∀ i, i < n → ∃ f : FateS, FCells W (a.add (i * 3)) f := fun i hi => by
      obtain ⟨cs', h1, h2⟩ := hcell i (by omega)
      rw [cellsFate] at h1
      exact open_fate h1 h2
    have : Inhabited FateS := ⟨⟨0, 0, 0⟩⟩
    obtain ⟨q, hq⟩ := Go.Deep.choose_lt (α := FateS) each
    refine ⟨(List.range n).map q, ⟨⟨some a, m, by simp⟩, fun _ => ⟨a, m, by simp, fun i f hf => ?_⟩⟩, fun h0 a' n' c' e => ?_⟩
    · obtain ⟨hi, rfl⟩ := List.getElem?_eq_some_iff.1 hf
      have hi' : i < n := by simpa using hi
      simp only [List.getElem_map, List.getElem_range]
      exact hq i hi'
    · injection e with e _ _
      injection e with e
      subst e
      have h1 := cell_lt (hq 0 (by simpa using h0)).1
      rwa [add_block] at h1
/-- an act of an argument: its cells, its fates, its bounds -/
def DCells (W : World) (q : Addr) (x : DAct) : Prop :=
  W.cell? q = some (.int .i64 x.k) ∧ W.cell? ⟨q.block, q.off + 1, none⟩ = some (.string x.a) ∧ W.cell? ⟨q.block, q.off + 2, none⟩ = some (.string x.b) ∧ W.cell? ⟨q.block, q.off + 3, none⟩ = some (.string x.s) ∧
    W.cell? ⟨q.block, q.off + 4, none⟩ = some (.int .i64 x.n) ∧ W.cell? ⟨q.block, q.off + 5, none⟩ = some (.slice x.fa x.fl x.fc)
def DOk (W : World) (x : DAct) : Prop := x.a.size ≤ 9223372036854775807 ∧ x.b.size ≤ 9223372036854775807 ∧ x.s.size ≤ 9223372036854775807 ∧ x.fl ≤ 9223372036854775807 ∧ x.n ≤ 9223372036854775807 ∧ FatesIn W x.fa x.fl x.fc
set_option maxRecDepth 100000 in
theorem open_dact {H : Type} {enc : TypeId × Value → H} {W : World} {fuel : Nat} {cs : List Value} {x : DataW H × List MemPlace} {q : Addr}
    (h1 : W.cells? 0 q 6 = some cs) (h2 : DataW.trod enc Try.prog W 0 (fun _ => true) true fuel 32 cs = some x) : ∃ f : DAct, DCells W q f ∧ DOk W f := by
  obtain ⟨_, hlen, hcell⟩ := World.cells?_some h1
  obtain ⟨xs, k, hk, hxy, _, hxl, hf⟩ := DataW.trod_struct Try.underlying32 h2
  match xs, hxl, cs, hlen with
  | [y0, y1, y2, y3, y4, y5], _, [v0, v1, v2, v3, v4, v5], _ =>
    have g0 := hf 0 _ rfl
    have g1 := hf 1 _ rfl
    have g2 := hf 2 _ rfl
    have g3 := hf 3 _ rfl
    have g4 := hf 4 _ rfl
    have g5 := hf 5 _ rfl
    simp [cellsI, cellsS, cellsFs] at g0 g1 g2 g3 g4 g5
    obtain ⟨n0, e0, _, w0⟩ := DataW.trod_int Try.underlying3 g0
    obtain ⟨s1, e1, _, w1⟩ := DataW.trod_string Try.underlying9 g1
    obtain ⟨s2, e2, _, w2⟩ := DataW.trod_string Try.underlying9 g2
    obtain ⟨s3, e3, _, w3⟩ := DataW.trod_string Try.underlying9 g3
    obtain ⟨n4, e4, _, w4⟩ := DataW.trod_int Try.underlying3 g4
    obtain ⟨fa, fl, fc, e5, w5, w6⟩ := open_fates g5
    have c0 := hcell 0 (by omega)
    have c1 := hcell 1 (by omega)
    have c2 := hcell 2 (by omega)
    have c3 := hcell 3 (by omega)
    have c4 := hcell 4 (by omega)
    have c5 := hcell 5 (by omega)
    refine ⟨⟨n0, s1, s2, s3, n4, fa, fl, fc⟩, ⟨?_, ?_, ?_, ?_, ?_, ?_⟩, by unfold maxLen at w1; omega, by unfold maxLen at w2; omega, by unfold maxLen at w3; omega, w6, (i64_bd w4).2, w5⟩
    · rw [show q = q.add 0 from rfl, c0]; simpa using e0
    · show W.cell? (q.add 1) = _; rw [c1]; simpa using e1
    · show W.cell? (q.add 2) = _; rw [c2]; simpa using e2
    · show W.cell? (q.add 3) = _; rw [c3]; simpa using e3
    · show W.cell? (q.add 4) = _; rw [c4]; simpa using e4
    · show W.cell? (q.add 5) = _; rw [c5]; simpa using e5
def DRow (W : World) (ao : Option Addr) (l : List DAct) : Prop := 0 < l.length → ∃ a, ao = some a ∧ a.block < W.heap.size ∧ ∀ i (hi : i < l.length), DCells W (a.add (i * 6)) l[i] ∧ DOk W l[i]
theorem open_dacts {H : Type} {enc : TypeId × Value → H} {W : World} {ao : Option Addr} {len cap fuel : Nat} {x : DataW H × List MemPlace}
    (h : DataW.trod enc Try.prog W 0 (fun _ => true) true fuel 22 [.slice ao len cap] = some x) :
    ∃ l : List DAct, l.length = len ∧ DRow W ao l ∧ len ≤ 9223372036854775807 := by
  rcases Go.Deep.open_slice Try.underlying22 h with ⟨hcs, _⟩ | ⟨a, n, c, m, nf, D, Pl, hcs, hb, hl, hm, hmm, hx, hcell⟩
  · simp at hcs
    obtain ⟨rfl, rfl, rfl⟩ := hcs
    exact ⟨[], rfl, fun h => by simp at h, by decide⟩
  · simp at hcs
    obtain ⟨rfl, rfl, rfl⟩ := hcs
    have hm2 : m = cap := by simpa using hmm
    subst hm2
    unfold maxLen at hm
    have each : ∀ i, i < len → ∃ p : DAct, DCells W (a.add (i * 6)) p ∧ DOk W p := fun i hi => by
      obtain ⟨cs', h1, h2⟩ := hcell i (by omega)
      rw [cellsDAct] at h1
      exact open_dact h1 h2
    have : Inhabited DAct := ⟨⟨0, ⟨#[]⟩, ⟨#[]⟩, ⟨#[]⟩, 0, none, 0, 0⟩⟩
    obtain ⟨q, hq⟩ := Go.Deep.choose_lt (α := DAct) each
    refine ⟨(List.range len).map q, by simp, fun h0 => ?_, by omega⟩
    refine ⟨a, rfl, ?_, fun i hi => ?_⟩
    · have := cell_lt (hq 0 (by simpa using h0)).1.1
      rwa [add_block] at this
    · have hi' : i < len := by simpa using hi
      simp only [List.getElem_map, List.getElem_range]
      exact hq i hi'
theorem FatesIn.below {W W' : World} {fa : Option Addr} {fl fc : Nat} (h : FatesIn W fa fl fc) (hb : Below W.heap.size W W') : FatesIn W' fa fl fc := by
  obtain ⟨fates, h1, h2⟩ := h
  exact ⟨fates, fates_below h1 h2 hb, fun h0 a n c e => Nat.lt_of_lt_of_le (h2 h0 a n c e) hb.size⟩
theorem DRow.below {W W' : World} {ao : Option Addr} {l : List DAct} (h : DRow W ao l) (hb : Below W.heap.size W W') : DRow W' ao l := fun h0 => by
  obtain ⟨a, rfl, h1, h2⟩ := h h0
  refine ⟨a, rfl, Nat.lt_of_lt_of_le h1 hb.size, fun i hi => ?_⟩
  obtain ⟨⟨c0, c1, c2, c3, c4, c5⟩, k1, k2, k3, k4, k5, k6⟩ := h2 i hi
  have hbl : (a.add (i * 6)).block < W.heap.size := by rw [add_block]; exact h1
  have key : ∀ j, W'.cell? ⟨(a.add (i * 6)).block, (a.add (i * 6)).off + j, none⟩ = W.cell? ⟨(a.add (i * 6)).block, (a.add (i * 6)).off + j, none⟩ := fun j => hb.cell (p := ⟨(a.add (i * 6)).block, (a.add (i * 6)).off + j, none⟩) hbl
  exact ⟨⟨(hb.cell (p := a.add (i * 6)) hbl).trans c0, (key 1).trans c1, (key 2).trans c2, (key 3).trans c3, (key 4).trans c4, (key 5).trans c5⟩, k1, k2, k3, k4, k5, k6.below hb⟩
end Go.Proofs.Ytpeobjnamflibaa.Dk
