/-
  An argument that is a row of trades, opened. Conditions: as each theorem states.
-/
import Derived.Test.YtfgahmkfhlbogaaNr
namespace Go.Proofs.Ytfgahmkfhlbogaa
open Go.ChangeShapes Go.WideShapes Go.ChangeAt Go.RowKit

structure Trd where
  maker : Int
  taker : Int
  price : Int
  size : Int
instance : Inhabited Trd := ⟨⟨0, 0, 0, 0⟩⟩
def TCells (W : World) (q : Addr) (x : Trd) : Prop := W.cell? q = some (.int .u64 x.maker) ∧ W.cell? (q.add 1) = some (.int .u64 x.taker) ∧ W.cell? (q.add 2) = some (.int .i64 x.price) ∧ W.cell? (q.add 3) = some (.int .i64 x.size)
def Trd.ok (x : Trd) : Prop := rg x.price ∧ rg x.size
def TRow (W : World) (ao : Option Addr) (l : List Trd) : Prop := 0 < l.length → ∃ a, ao = some a ∧ a.block < W.heap.size ∧ ∀ i (hi : i < l.length), TCells W (a.add (i * 4)) l[i]
theorem tadd (a : Addr) (n m : Nat) : (a.add n).add m = a.add (n + m) := Go.Deep.add_add a n m
theorem TRow.below {W W2 : World} {ao : Option Addr} {l : List Trd} (h : TRow W ao l) (hb : Below W.heap.size W W2) : TRow W2 ao l := fun h0 => by
  obtain ⟨a, rfl, h1, h2⟩ := h h0
  refine ⟨a, rfl, by have := hb.size; omega, fun i hi => ?_⟩
  obtain ⟨c0, c1, c2, c3⟩ := h2 i hi
  have k : ∀ p : Addr, p.block = a.block → W2.cell? p = W.cell? p := fun p hp => hb.cell (p := p) (by rw [hp]; exact h1)
  exact ⟨(k _ (by rw [block_add])).trans c0, (k _ (by rw [block_add, block_add])).trans c1, (k _ (by rw [block_add, block_add])).trans c2, (k _ (by rw [block_add, block_add])).trans c3⟩
theorem cellsTrade : Try.prog.cellsOf 49 = 4 := by kernel_rfl
theorem cellsU64 : Try.prog.cellsOf 47 = 1 := by kernel_rfl
set_option maxRecDepth 100000 in
theorem open_trade {H : Type} {enc : TypeId × Value → H} {W : World} {fuel : Nat} {cs : List Value} {x : DataW H × List MemPlace} {q : Addr}
    (h1 : W.cells? 0 q 4 = some cs) (h2 : DataW.trod enc Try.prog W 0 (fun _ => true) true fuel 49 cs = some x) :
    ∃ p : Trd, TCells W q p ∧ p.ok := by
  obtain ⟨_, hlen, hcell⟩ := World.cells?_some h1
  obtain ⟨xs, k, hk, hxy, _, hxl, hf⟩ := DataW.trod_struct Try.underlying49 h2
  match xs, hxl, cs, hlen with
  | [y0, y1, y2, y3], _, [v0, v1, v2, v3], _ =>
    have g0 := hf 0 _ rfl
    have g1 := hf 1 _ rfl
    have g2 := hf 2 _ rfl
    have g3 := hf 3 _ rfl
    simp [cellsU64, cellsI64] at g0 g1 g2 g3
    obtain ⟨n0, e0, _, w0⟩ := DataW.trod_int Try.underlying47 g0
    obtain ⟨n1, e1, _, w1⟩ := DataW.trod_int Try.underlying47 g1
    obtain ⟨n2, e2, _, w2⟩ := DataW.trod_int Try.underlying2 g2
    obtain ⟨n3, e3, _, w3⟩ := DataW.trod_int Try.underlying2 g3
    have c0 := hcell 0 (by omega)
    have c1 := hcell 1 (by omega)
    have c2 := hcell 2 (by omega)
    have c3 := hcell 3 (by omega)
    refine ⟨⟨n0, n1, n2, n3⟩, ⟨?_, ?_, ?_, ?_⟩, i64_bd w2, i64_bd w3⟩
    · rw [show q = q.add 0 from rfl, c0]; simpa using e0
    · show W.cell? (q.add 1) = _; rw [c1]; simpa using e1
    · show W.cell? (q.add 2) = _; rw [c2]; simpa using e2
    · show W.cell? (q.add 3) = _; rw [c3]; simpa using e3
theorem open_trades {H : Type} {enc : TypeId × Value → H} {W : World} {ao : Option Addr} {len cap fuel : Nat} {x : DataW H × List MemPlace}
    (h : DataW.trod enc Try.prog W 0 (fun _ => true) true fuel 22 [.slice ao len cap] = some x) :
    ∃ l : List Trd, l.length = len ∧ TRow W ao l ∧ (len ≤ 9223372036854775807 ∧ len ≤ cap) ∧ ∀ p ∈ l, p.ok := by
  rcases Go.Deep.open_slice Try.underlying22 h with ⟨hcs, _⟩ | ⟨a, n, c, m, nf, D, Pl, hcs, hb, hl, hm, hmm, hx, hcell⟩
  · simp at hcs
    obtain ⟨rfl, rfl, rfl⟩ := hcs
    exact ⟨[], rfl, fun h => by simp at h, by decide, fun p hp => by cases hp⟩
  · simp at hcs
    obtain ⟨rfl, rfl, rfl⟩ := hcs
    have hm2 : m = cap := by simpa using hmm
    subst hm2
    unfold maxLen at hm
    have each : ∀ i, i < len → ∃ p : Trd, TCells W (a.add (i * 4)) p ∧ p.ok := fun i hi => by
      obtain ⟨cs', h1, h2⟩ := hcell i (by omega)
      rw [cellsTrade] at h1
      exact open_trade h1 h2
    obtain ⟨q, hq⟩ := Go.Deep.choose_lt (α := Trd) each
    refine ⟨(List.range len).map q, by simp, fun h0 => ?_, by omega, fun p hp => ?_⟩
    · refine ⟨a, rfl, ?_, fun i hi => ?_⟩
      · have := cell_lt (hq 0 (by simpa using h0)).1.1
        rwa [block_add] at this
      · have hi' : i < len := by simpa using hi
        simp only [List.getElem_map, List.getElem_range]
        exact (hq i hi').1
    · obtain ⟨i, hi, rfl⟩ := List.mem_map.1 hp
      exact (hq i (List.mem_range.1 hi)).2
end Go.Proofs.Ytfgahmkfhlbogaa
