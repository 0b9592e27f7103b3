/-
  An argument that is an edit, opened: what lies there. Conditions: as each theorem states.
-/
import Derived.Test.YtomokbcamfmfcaaDoorEdD
import Derived.Test.YtomokbcamfmfcaaDoorLaw
import Derived.Deep.SlicePairs
import Derived.WideShapes
namespace Go.Proofs.YtomokbcamfmfcaaDoor.Ed
open Go.ChangeShapes Go.WideShapes Go.ChangeAt Go.RowKit
open Go.Proofs.YtomokbcamfmfcaaDoor

theorem cellsAt : Tryd.prog.cellsOf 64 = 6 := by kernel_rfl
theorem cellsFile : Tryd.prog.cellsOf 62 = 5 := by kernel_rfl
theorem cellsGone : Tryd.prog.cellsOf 73 = 2 := by kernel_rfl
theorem cellsEdit : Tryd.prog.cellsOf 31 = 5 := by kernel_rfl
theorem cellsInt : Tryd.prog.cellsOf 3 = 1 := by kernel_rfl
theorem cellsU64 : Tryd.prog.cellsOf 22 = 1 := by kernel_rfl
theorem cellsStr : Tryd.prog.cellsOf 9 = 1 := by kernel_rfl
theorem cellsAts : Tryd.prog.cellsOf 28 = 1 := by kernel_rfl
theorem cellsGones : Tryd.prog.cellsOf 29 = 1 := by kernel_rfl
theorem i64_wf {a : Int} (w0 : (Lit.int .i64 a).wf = true) : -9223372036854775808 ≤ a ∧ a ≤ 9223372036854775807 := by
  simp [Lit.wf] at w0
  have e : IntKind.i64.min = -9223372036854775808 := by decide
  rw [e] at w0
  exact w0
set_option maxRecDepth 100000 in
theorem open_fil {H : Type} {enc : TypeId × Value → H} {W : World} {fuel : Nat} {cs : List Value} {x : DataW H × List MemPlace} {q : Addr}
    (h1 : W.cells? 0 q 6 = some cs) (h2 : DataW.trod enc Tryd.prog W 0 (fun _ => true) true fuel 64 cs = some x) :
    ∃ p : Fil, ACells W q p ∧ p.ok := by
  obtain ⟨_, hlen, hcell⟩ := World.cells?_some h1
  obtain ⟨xs, k, hk, hxy, _, hxl, hf⟩ := DataW.trod_struct Tryd.underlying64 h2
  match xs, hxl, cs, hlen with
  | [y0, y1], _, [v0, v1, v2, v3, v4, v5], _ =>
    have g0 := hf 0 _ rfl
    have g1 := hf 1 _ rfl
    simp [cellsInt, cellsFile] at g0 g1
    obtain ⟨n0, e0, _, w0⟩ := DataW.trod_int Tryd.underlying3 g0
    obtain ⟨zs, k2, hk2, hzy, _, hzl, hz⟩ := DataW.trod_struct Tryd.underlying62 g1
    match zs, hzl with
    | [u0, u1, u2, u3, u4], _ =>
      have b0 := hz 0 _ rfl
      have b1 := hz 1 _ rfl
      have b2 := hz 2 _ rfl
      have b3 := hz 3 _ rfl
      have b4 := hz 4 _ rfl
      simp [cellsU64, cellsStr] at b0 b1 b2 b3 b4
      obtain ⟨n1, e1, _, w1⟩ := DataW.trod_int Tryd.underlying22 b0
      obtain ⟨n2, e2, _, w2⟩ := DataW.trod_int Tryd.underlying22 b1
      obtain ⟨n3, e3, _, w3⟩ := DataW.trod_int Tryd.underlying22 b2
      obtain ⟨s1, e4, _, w4⟩ := DataW.trod_string Tryd.underlying9 b3
      obtain ⟨s2, e5, _, w5⟩ := DataW.trod_string Tryd.underlying9 b4
      obtain ⟨m1, rfl, l1⟩ := u64_nat w1
      obtain ⟨m2, rfl, l2⟩ := u64_nat w2
      obtain ⟨m3, rfl, l3⟩ := u64_nat w3
      obtain ⟨c0a, c0b⟩ := i64_wf w0
      have c0 := hcell 0 (by omega)
      have c1 := hcell 1 (by omega)
      have c2 := hcell 2 (by omega)
      have c3 := hcell 3 (by omega)
      have c4 := hcell 4 (by omega)
      have c5 := hcell 5 (by omega)
      refine ⟨⟨n0, m1, m2, m3, s1, s2⟩, ⟨?_, ?_, ?_, ?_, ?_, ?_⟩, c0a, c0b, l1, l2, l3, w4, w5⟩
      · rw [show q = q.add 0 from rfl, c0]; simpa using e0
      · show W.cell? (q.add 1) = _; rw [c1]; simpa using e1
      · show W.cell? (q.add 2) = _; rw [c2]; simpa using e2
      · show W.cell? (q.add 3) = _; rw [c3]; simpa using e3
      · show W.cell? (q.add 4) = _; rw [c4]; simpa using e4
      · show W.cell? (q.add 5) = _; rw [c5]; simpa using e5
set_option maxRecDepth 100000 in
theorem open_gon {H : Type} {enc : TypeId × Value → H} {W : World} {fuel : Nat} {cs : List Value} {x : DataW H × List MemPlace} {q : Addr}
    (h1 : W.cells? 0 q 2 = some cs) (h2 : DataW.trod enc Tryd.prog W 0 (fun _ => true) true fuel 73 cs = some x) :
    ∃ p : Gon, GCells W q p ∧ p.ok := by
  obtain ⟨_, hlen, hcell⟩ := World.cells?_some h1
  obtain ⟨xs, k, hk, hxy, _, hxl, hf⟩ := DataW.trod_struct Tryd.underlying73 h2
  match xs, hxl, cs, hlen with
  | [y0, y1], _, [v0, v1], _ =>
    have g0 := hf 0 _ rfl
    have g1 := hf 1 _ rfl
    simp [cellsInt, cellsU64] at g0 g1
    obtain ⟨n0, e0, _, w0⟩ := DataW.trod_int Tryd.underlying3 g0
    obtain ⟨n1, e1, _, w1⟩ := DataW.trod_int Tryd.underlying22 g1
    obtain ⟨m1, rfl, l1⟩ := u64_nat w1
    obtain ⟨c0a, c0b⟩ := i64_wf w0
    have c0 := hcell 0 (by omega)
    have c1 := hcell 1 (by omega)
    refine ⟨⟨n0, m1⟩, ⟨?_, ?_⟩, c0a, c0b, l1⟩
    · rw [show q = q.add 0 from rfl, c0]; simpa using e0
    · show W.cell? (q.add 1) = _; rw [c1]; simpa using e1
theorem open_fils {H : Type} {enc : TypeId × Value → H} {W : World} {v : Value} {fuel : Nat} {x : DataW H × List MemPlace}
    (h : DataW.trod enc Tryd.prog W 0 (fun _ => true) true fuel 28 [v] = some x) :
    ∃ (l : List Fil) (ao : Option Addr) (cap : Nat), v = .slice ao l.length cap ∧ ARow W ao l ∧ l.length ≤ 9223372036854775807 ∧ ∀ p ∈ l, p.ok := by
  rcases Go.Deep.open_slice Tryd.underlying28 h with ⟨hcs, _⟩ | ⟨a, n, c, m, nf, D, Pl, hcs, hb, hl, hm, hmm, hx, hcell⟩
  · simp at hcs
    subst hcs
    exact ⟨[], none, 0, rfl, arow_nil _ _, by decide, fun p hp => by cases hp⟩
  · simp at hcs
    subst hcs
    have hm2 : m = c := by simpa using hmm
    subst hm2
    unfold maxLen at hm
    have each : ∀ i, i < n → ∃ p : Fil, ACells W (a.add (i * 6)) p ∧ p.ok := fun i hi => by
      obtain ⟨cs', h1, h2⟩ := hcell i (by omega)
      rw [cellsAt] at h1
      exact open_fil h1 h2
    obtain ⟨q, hq⟩ := Go.Deep.choose_lt (α := Fil) each
    refine ⟨(List.range n).map q, some a, m, by simp, fun h0 => ⟨a, rfl, ?_, fun i hi => ?_⟩, by simp; omega, fun p hp => ?_⟩
    · have := cell_lt (hq 0 (by simpa using h0)).1.1
      rwa [block_add] at this
    · have hi' : i < n := by simpa using hi
      simp only [List.getElem_map, List.getElem_range]
      exact (hq i hi').1
    · obtain ⟨i, hi, rfl⟩ := List.mem_map.1 hp
      exact (hq i (List.mem_range.1 hi)).2
theorem open_gons {H : Type} {enc : TypeId × Value → H} {W : World} {v : Value} {fuel : Nat} {x : DataW H × List MemPlace}
    (h : DataW.trod enc Tryd.prog W 0 (fun _ => true) true fuel 29 [v] = some x) :
    ∃ (l : List Gon) (ao : Option Addr) (cap : Nat), v = .slice ao l.length cap ∧ GRow W ao l ∧ l.length ≤ 9223372036854775807 ∧ ∀ p ∈ l, p.ok := by
  rcases Go.Deep.open_slice Tryd.underlying29 h with ⟨hcs, _⟩ | ⟨a, n, c, m, nf, D, Pl, hcs, hb, hl, hm, hmm, hx, hcell⟩
  · simp at hcs
    subst hcs
    exact ⟨[], none, 0, rfl, grow_nil _ _, by decide, fun p hp => by cases hp⟩
  · simp at hcs
    subst hcs
    have hm2 : m = c := by simpa using hmm
    subst hm2
    unfold maxLen at hm
    have each : ∀ i, i < n → ∃ p : Gon, GCells W (a.add (i * 2)) p ∧ p.ok := fun i hi => by
      obtain ⟨cs', h1, h2⟩ := hcell i (by omega)
      rw [cellsGone] at h1
      exact open_gon h1 h2
    obtain ⟨q, hq⟩ := Go.Deep.choose_lt (α := Gon) each
    refine ⟨(List.range n).map q, some a, m, by simp, fun h0 => ⟨a, rfl, ?_, fun i hi => ?_⟩, by simp; omega, fun p hp => ?_⟩
    · have := cell_lt (hq 0 (by simpa using h0)).1.1
      rwa [block_add] at this
    · have hi' : i < n := by simpa using hi
      simp only [List.getElem_map, List.getElem_range]
      exact (hq i hi').1
    · obtain ⟨i, hi, rfl⟩ := List.mem_map.1 hp
      exact (hq i (List.mem_range.1 hi)).2
set_option maxRecDepth 100000 in
theorem open_edit {H : Type} {enc : TypeId × Value → H} {W : World} {base : Nat} {v : Value} {dd : DataW H} {ps : List MemPlace}
    (hval : Value.okWide Tryd.prog W .any base 31 v) (hd : DataW.Trod enc Tryd.prog W 0 (fun _ => true) true 31 v dd ps) :
    ∃ (e : Edt) (A G : Option Addr) (c d : Nat), v = e.val A c G d ∧ Lies W e A G := by
  obtain ⟨cs, rfl, hsz⟩ := okWide_struct Tryd.underlying31 hval
  rw [cellsEdit] at hsz
  obtain ⟨fuel, hf⟩ := hd
  obtain ⟨xs, k, hk, hxy, _, hxl, hff⟩ := DataW.trod_struct Tryd.underlying31 hf
  obtain ⟨cl⟩ := cs
  match xs, hxl, cl, hsz with
  | [y0, y1, y2, y3, y4], _, [v0, v1, v2, v3, v4], _ =>
    have g0 := hff 0 _ rfl
    have g1 := hff 1 _ rfl
    have g2 := hff 2 _ rfl
    have g3 := hff 3 _ rfl
    have g4 := hff 4 _ rfl
    simp [cellsU64, cellsAts, cellsGones, Value.cells] at g0 g1 g2 g3 g4
    obtain ⟨n0, e0, _, w0⟩ := DataW.trod_int Tryd.underlying22 g0
    obtain ⟨n1, e1, _, w1⟩ := DataW.trod_int Tryd.underlying22 g1
    obtain ⟨n2, e2, _, w2⟩ := DataW.trod_int Tryd.underlying22 g2
    obtain ⟨m0, rfl, l0⟩ := u64_nat w0
    obtain ⟨m1, rfl, l1⟩ := u64_nat w1
    obtain ⟨m2, rfl, l2⟩ := u64_nat w2
    obtain ⟨la, A, c, ea, ra, ha, oa⟩ := open_fils g3
    obtain ⟨lg, G, d, eg, rg, hg, og⟩ := open_gons g4
    simp at e0 e1 e2
    subst e0 e1 e2 ea eg
    exact ⟨⟨m0, m1, m2, la, lg⟩, A, G, c, d, rfl, ra, rg, ⟨l0, l1, l2, oa, og⟩, ha, hg⟩
end Go.Proofs.YtomokbcamfmfcaaDoor.Ed
