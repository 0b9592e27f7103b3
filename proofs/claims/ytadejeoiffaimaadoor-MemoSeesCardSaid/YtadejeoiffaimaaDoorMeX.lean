/-
  Rows of entries as arguments, opened; Light walked. Conditions: as each theorem states.
-/
import Derived.Test.YtadejeoiffaimaaDoorMeP
import Derived.Test.YtadejeoiffaimaaDoorLaw
import Derived.Test.YtadejeoiffaimaaDoorSkO
import Derived.Deep.SlicePairs
namespace Go.Proofs.YtadejeoiffaimaaDoor.Me
open Go.ChangeShapes Go.WideShapes Go.ChangeAt Go.RowKit
open Go.Proofs.YtadejeoiffaimaaDoor
open Vi
open Go.Proofs.YtadejeoiffaimaaDoor.Sk (NRow)

instance : Inhabited En := ⟨⟨⟨#[]⟩, 0, 0, ⟨#[]⟩⟩⟩
def EnCells (W : World) (q : Addr) (p : En) : Prop := W.cell? q = some (.string p.key) ∧ W.cell? ⟨q.block, q.off + 1, none⟩ = some (.int .u64 p.seq) ∧ W.cell? ⟨q.block, q.off + 2, none⟩ = some (.int .i64 p.kind) ∧ W.cell? ⟨q.block, q.off + 3, none⟩ = some (.string p.val)
def ERow (W : World) (ao : Option Addr) (l : List En) : Prop := 0 < l.length → ∃ a, ao = some a ∧ a.block < W.heap.size ∧ ∀ i (hi : i < l.length), EnCells W (a.add (i * 4)) l[i]
theorem ERow.kept {W W' : World} {ao : Option Addr} {l : List En} (h : ERow W ao l) {B : Nat} (hB : ∀ a, ao = some a → a.block < B) (hb : Below B W W') (hs : W.heap.size ≤ W'.heap.size) : ERow W' ao l := fun h0 => by
  obtain ⟨a, rfl, h1, h2⟩ := h h0
  have hab := hB a rfl
  refine ⟨a, rfl, by omega, fun i hi => ?_⟩
  obtain ⟨c0, c1, c2, c3⟩ := h2 i hi
  have hbl : (a.add (i * 4)).block < B := by rw [block_add]; exact hab
  exact ⟨(hb.cell (p := a.add (i * 4)) hbl).trans c0, (hb.cell (p := ⟨(a.add (i * 4)).block, (a.add (i * 4)).off + 1, none⟩) hbl).trans c1, (hb.cell (p := ⟨(a.add (i * 4)).block, (a.add (i * 4)).off + 2, none⟩) hbl).trans c2, (hb.cell (p := ⟨(a.add (i * 4)).block, (a.add (i * 4)).off + 3, none⟩) hbl).trans c3⟩
theorem erow_on {W W' : World} {ao : Option Addr} {l : List En} (h : Hid (ERow W ao l)) (hb : Below W.heap.size W W') : Hid (ERow W' ao l) := fun h0 => by
  obtain ⟨a, rfl, h1, h2⟩ := h.out h0
  exact (h.out.kept (B := W.heap.size) (fun x hx => by injection hx with hx; subst hx; exact h1) hb hb.size) h0
theorem cellsEnt : Tryd.prog.cellsOf 30 = 4 := by kernel_rfl
theorem cellsI : Tryd.prog.cellsOf 3 = 1 := by kernel_rfl
theorem cellsU : Tryd.prog.cellsOf 23 = 1 := by kernel_rfl
theorem cellsS : Tryd.prog.cellsOf 9 = 1 := by kernel_rfl
def En.big (e : En) : Prop := e.wf ∧ e.key.size ≤ 9223372036854775807 ∧ e.val.size ≤ 9223372036854775807
set_option maxRecDepth 100000 in
theorem open_ent {H : Type} {enc : TypeId × Value → H} {W : World} {fuel : Nat} {cs : List Value} {x : DataW H × List MemPlace} {q : Addr}
    (h1 : W.cells? 0 q 4 = some cs) (h2 : DataW.trod enc Tryd.prog W 0 (fun _ => true) true fuel 30 cs = some x) :
    ∃ p : En, EnCells W q p ∧ p.big := by
  obtain ⟨_, hlen, hcell⟩ := World.cells?_some h1
  obtain ⟨xs, k, hk, hxy, _, hxl, hf⟩ := DataW.trod_struct Tryd.underlying30 h2
  match xs, hxl, cs, hlen with
  | [y0, y1, y2, y3], _, [v0, v1, v2, v3], _ =>
    have g0 := hf 0 _ rfl
    have g1 := hf 1 _ rfl
    have g2 := hf 2 _ rfl
    have g3 := hf 3 _ rfl
    simp [cellsI, cellsS, cellsU] at g0 g1 g2 g3
    obtain ⟨s0, e0, _, w0⟩ := DataW.trod_string Tryd.underlying9 g0
    obtain ⟨n1, e1, _, w1⟩ := DataW.trod_int Tryd.underlying23 g1
    obtain ⟨n2, e2, _, w2⟩ := DataW.trod_int Tryd.underlying3 g2
    obtain ⟨s3, e3, _, w3⟩ := DataW.trod_string Tryd.underlying9 g3
    obtain ⟨u1, hu1, hu2⟩ := u64_nat w1
    obtain ⟨b1, b2⟩ := i64_bd w2
    have c0 := hcell 0 (by omega)
    have c1 := hcell 1 (by omega)
    have c2 := hcell 2 (by omega)
    have c3 := hcell 3 (by omega)
    refine ⟨⟨s0, u1, n2, s3⟩, ⟨?_, ?_, ?_, ?_⟩, ⟨⟨hu2, b1, b2⟩, w0, w3⟩⟩
    · rw [show q = q.add 0 from rfl, c0]; simpa using e0
    · show W.cell? (q.add 1) = _; rw [c1]; subst hu1; simpa using e1
    · show W.cell? (q.add 2) = _; rw [c2]; simpa using e2
    · show W.cell? (q.add 3) = _; rw [c3]; simpa using e3
theorem open_ents {H : Type} {enc : TypeId × Value → H} {W : World} {ao : Option Addr} {len cap fuel : Nat} {x : DataW H × List MemPlace}
    (h : DataW.trod enc Tryd.prog W 0 (fun _ => true) true fuel 22 [.slice ao len cap] = some x) :
    ∃ l : List En, l.length = len ∧ ERow W ao l ∧ len ≤ 9223372036854775807 ∧ ∀ p ∈ l, p.big := by
  rcases Go.Deep.open_slice Tryd.underlying22 h with ⟨hcs, _⟩ | ⟨a, n, c, m, nf, D, Pl, hcs, hb, hl, hm, hmm, hx, hcell⟩
  · simp at hcs
    obtain ⟨rfl, rfl, rfl⟩ := hcs
    exact ⟨[], rfl, fun h => by simp at h, by decide, fun p hp => by cases hp⟩
  · simp at hcs
    obtain ⟨rfl, rfl, rfl⟩ := hcs
    have hm2 : m = cap := by simpa using hmm
    subst hm2
    unfold maxLen at hm
    have each : ∀ i, i < len → ∃ p : En, EnCells W (a.add (i * 4)) p ∧ p.big := fun i hi => by
      obtain ⟨cs', h1, h2⟩ := hcell i (by omega)
      rw [cellsEnt] at h1
      exact open_ent h1 h2
    obtain ⟨q, hq⟩ := Go.Deep.choose_lt (α := En) each
    refine ⟨(List.range len).map q, by simp, fun h0 => ?_, by omega, fun p hp => ?_⟩
    · refine ⟨a, rfl, ?_, fun i hi => ?_⟩
      · have := cell_lt (hq 0 (by simpa using h0)).1.1
        rwa [block_add] at this
      · have hi' : i < len := by simpa using hi
        simp only [List.getElem_map, List.getElem_range]
        exact (hq i hi').1
    · obtain ⟨i, hi, rfl⟩ := List.mem_map.1 hp
      exact (hq i (List.mem_range.1 hi)).2
def okE (n m : Nat) (a : En) : Prop := n ≤ m ∧ a.key.size ≤ 300 ∧ a.val.size ≤ 1000
instance (n m : Nat) (a : En) : Decidable (okE n m a) := by unfold okE; exact inferInstance
theorem first_bad {l : List En} {n m : Nat} (h : ¬ ∀ a ∈ l, okE n m a) : ∃ k, ∃ hk : k < l.length, ¬ okE n m l[k] ∧ ∀ i (hi : i < l.length), i < k → okE n m l[i] := by
  induction l with
  | nil => exact absurd (fun s hs => by cases hs) h
  | cons x l ih =>
    by_cases hx : okE n m x
    · obtain ⟨k, hk, h1, h2⟩ := ih (fun h' => h (fun s hs => by
        rcases List.mem_cons.1 hs with rfl | hs
        · exact hx
        · exact h' s hs))
      refine ⟨k + 1, by simp; omega, by simpa using h1, fun i hi hlt => ?_⟩
      match i with
      | 0 => simpa using hx
      | i + 1 => simpa using h2 i (by simpa using hi) (by omega)
    · exact ⟨0, by simp, by simpa using hx, fun i hi hlt => by omega⟩
def LightE (w : World) (b : Bool) (e : Ending) (w' : World) : Prop := e = .returned (.bool b) ∧ Below w.heap.size w w'
def LiE (w : World) (k : Nat) (i : Value) (wr : World) : Prop := ∃ j : Nat, j ≤ k ∧ i = .int .i64 (j : Nat) ∧ Below w.heap.size w wr
set_option maxHeartbeats 1000000 in
theorem light_all {w : World} {A : Option Addr} {c : Nat} {l : List En} {m : Nat} {mi : Int} (hmi : mi = (m : Nat)) (RA : Hid (ERow w A l)) (hl : l.length ≤ 9223372036854775807) (hm : m ≤ 1000) (h : ∀ a ∈ l, okE l.length m a) :
    Calls Tryd.prog 6 #[.slice A l.length c, .int .i64 mi] w (LightE w true) := by
  subst hmi
  have HO := Lib.hid h
  clear h
  go_enter Tryd.func6, Tryd.ntmps6
  go_wp2
  go_loopw [9] (LiE w l.length) (fun i _ => l.length - (intOf i).toNat)
  case atStart => exact ⟨0, by omega, rfl, Below.refl _ _⟩
  case round =>
    obtain ⟨j, hj, rfl, hb⟩ := hrel
    by_cases hlt : j < l.length
    · obtain ⟨a, rfl, hab, hca⟩ := RA.out (by omega)
      obtain ⟨x0, x1, x2, x3⟩ := hca j hlt
      obtain ⟨o1, o2, o3⟩ := HO.out l[j] (List.getElem_mem hlt)
      have hbl : (a.add (j * 4)).block < w.heap.size := by rw [block_add]; exact hab
      rw [← hb.cell (p := a.add (j * 4)) hbl] at x0
      rw [← hb.cell (p := ⟨(a.add (j * 4)).block, (a.add (j * 4)).off + 1, none⟩) hbl] at x1
      rw [← hb.cell (p := ⟨(a.add (j * 4)).block, (a.add (j * 4)).off + 2, none⟩) hbl] at x2
      rw [← hb.cell (p := ⟨(a.add (j * 4)).block, (a.add (j * 4)).off + 3, none⟩) hbl] at x3
      clear hca
      generalize l[j] = y at *
      go_wp2
      go_roundw
      case rel => exact ⟨j + 1, by omega, by go_num, hb.alloc hb.size _⟩
      case measure => simp [intOf]; omega
    · go_wp2
      go_ret
      exact ⟨rfl, hb⟩
set_option maxHeartbeats 1000000 in
theorem light_bad {w : World} {A : Option Addr} {c : Nat} {l : List En} {m : Nat} {mi : Int} (hmi : mi = (m : Nat)) (RA : Hid (ERow w A l)) (hl : l.length ≤ 9223372036854775807) (hm : m ≤ 1000) (hsz : ∀ p ∈ l, p.big) (h : ¬ ∀ a ∈ l, okE l.length m a) :
    Calls Tryd.prog 6 #[.slice A l.length c, .int .i64 mi] w (LightE w false) := by
  subst hmi
  obtain ⟨k, hk, hbad, hgood⟩ := first_bad h
  have HO := Lib.hid (And.intro hbad (And.intro hgood hsz))
  clear h hbad hgood hsz
  go_enter Tryd.func6, Tryd.ntmps6
  go_wp2
  go_loopw [9] (LiE w k) (fun i _ => l.length - (intOf i).toNat)
  case atStart => exact ⟨0, by omega, rfl, Below.refl _ _⟩
  case round =>
    obtain ⟨j, hj, rfl, hb⟩ := hrel
    obtain ⟨a, rfl, hab, hca⟩ := RA.out (by omega)
    obtain ⟨x0, x1, x2, x3⟩ := hca j (by omega)
    have hbl : (a.add (j * 4)).block < w.heap.size := by rw [block_add]; exact hab
    rw [← hb.cell (p := a.add (j * 4)) hbl] at x0
    rw [← hb.cell (p := ⟨(a.add (j * 4)).block, (a.add (j * 4)).off + 1, none⟩) hbl] at x1
    rw [← hb.cell (p := ⟨(a.add (j * 4)).block, (a.add (j * 4)).off + 2, none⟩) hbl] at x2
    rw [← hb.cell (p := ⟨(a.add (j * 4)).block, (a.add (j * 4)).off + 3, none⟩) hbl] at x3
    clear hca
    have hjl : j < l.length := by omega
    by_cases hlt : j < k
    · obtain ⟨o1, o2, o3⟩ := HO.out.2.1 j (by omega) hlt
      generalize l[j]'(by omega) = y at *
      go_wp2
      go_roundw
      case rel => exact ⟨j + 1, by omega, by go_num, hb.alloc hb.size _⟩
      case measure => simp [intOf]; omega
    · obtain rfl : j = k := by omega
      have hbd := HO.out.1
      obtain ⟨z0, z1, z2⟩ := HO.out.2.2 _ (List.getElem_mem hk)
      clear z0
      unfold okE at hbd
      have hbd' : m < l.length ∨ (l.length ≤ m ∧ 300 < l[j].key.size) ∨ (l.length ≤ m ∧ l[j].key.size ≤ 300 ∧ 1000 < l[j].val.size) := by omega
      clear hbd
      generalize l[j] = y at *
      rcases hbd' with o1 | ⟨o1, o2⟩ | ⟨o1, o2, o3⟩
      all_goals
        go_wp2
        go_ret
        exact ⟨rfl, hb.alloc hb.size _⟩
end Go.Proofs.YtadejeoiffaimaaDoor.Me
