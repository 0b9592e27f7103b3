/-
  Rows of batches in memory; what is kept by types. Conditions: as each theorem states.
-/
import Derived.Test.YtdkgieaanpfhcaaGreatDoorWaMath
import Derived.Test.YtdkgieaanpfhcaaGreatDoorGaBa
import Derived.Test.YtdkgieaanpfhcaaGreatDoorRfM
namespace Go.Proofs.YtdkgieaanpfhcaaGreatDoor.Wa
open Go.RowKit Go.Shelf
open Go.Proofs.YtdkgieaanpfhcaaGreatDoor
open Vi Ba
open Go.Proofs.YtdkgieaanpfhcaaGreatDoor.Rf

/-- all cells of these types stand as they stood -/
def KT (ts : List TypeId) (A C : World) : Prop := ∀ (k : Nat) (c : Array Value) (t : TypeId) (fr : Nat × Nat), t ∈ ts → A.heap[k]? = some (.cells c t fr) → C.heap[k]? = some (.cells c t fr)
section
variable {ts : List TypeId} {A B C : World}
theorem hp_lt {w : World} {k : Nat} {o : Obj} (h : w.heap[k]? = some o) : k < w.heap.size := (Array.getElem?_eq_some_iff.1 h).1
theorem KT.refl (A : World) : KT ts A A := fun _ _ _ _ _ h => h
theorem KT.t (h : KT ts A B) (k : KT ts B C) : KT ts A C := fun j c t fr ht hj => k j c t fr ht (h j c t fr ht hj)
theorem KT.less {us : List TypeId} (h : KT ts A B) (hs : ∀ t ∈ us, t ∈ ts) : KT us A B := fun j c t fr ht hj => h j c t fr (hs t ht) hj
theorem KT.below (h : Below A.heap.size A B) : KT ts A B := fun k _ _ _ _ hk => (h.block k (hp_lt hk)).trans hk
theorem KT.grown {row : Option Nat} (hg : A.grownBy B row) (hr : ∀ r, row = some r → ∃ o : Obj, A.heap[r]? = some o ∧ o.isCells = false) : KT ts A B := fun k c t fr _ hk =>
  (hg.block k (hp_lt hk) (fun e => by
    obtain ⟨o, h1, h2⟩ := hr k e.symm
    rw [hk] at h1; injection h1 with h1; subst h1; cases h2)).trans hk
theorem own_cells {w : World} {base e size n : Nat} {v : Value} {xs : List Value} (h : w.ownsRow base e size v n xs) {g : Nat} (hg : v.ownBlock = some g) : ∃ cur, w.heap[g]? = some (.cells cur e (0, 0)) := by
  rcases h.2 with ⟨rfl, _⟩ | ⟨g', cap, cur, rfl, _, hb, _⟩
  · cases hg
  · injection hg with hg
    subst hg
    exact ⟨cur, hb⟩
theorem KT.own {base e size n : Nat} {v : Value} {xs : List Value} (own : A.ownsRow base e size v n xs) (hg : A.grownBy B v.ownBlock) (he : e ∉ ts) : KT ts A B := fun k c t fr ht hk =>
  (hg.block k (hp_lt hk) (fun h => by
    obtain ⟨cur, hc⟩ := own_cells own h.symm
    rw [hk] at hc; injection hc with hc; injection hc with _ hc _; subst hc; exact he ht)).trans hk
theorem KT.set {b i : Nat} {c : Array Value} {t : TypeId} {f : Nat × Nat} (h : A.heap[b]? = some (.cells c t f)) (ht : t ∉ ts) (v : Value) : KT ts A (A.setCell ⟨b, i, none⟩ v) := fun k c2 t2 fr ht2 hk =>
  (Below.heap_setCell A ⟨b, i, none⟩ v k (fun e => by
    have e : k = b := by simpa using e
    subst e; rw [h] at hk; injection hk with hk; injection hk with _ hk _; subst hk; exact ht ht2)).trans hk
theorem KT.put {l : Nat} {o o' : Obj} (h : A.heap[l]? = some o) (hc : o.isCells = false) : KT ts A (A.putObj l o') := fun k c t fr _ hk =>
  (World.putObj_heap_other (fun e => by subst e; rw [hk] at h; injection h with h; subst h; cases hc)).trans hk
theorem KT.box {k : Nat} {c : Array Value} {t : TypeId} {fr : Nat × Nat} (h : KT ts A B) (ht : t ∈ ts) (hk : A.heap[k]? = some (.cells c t fr)) : B.heap[k]? = some (.cells c t fr) := h k c t fr ht hk
theorem KT.row {base e size n : Nat} {v : Value} {xs : List Value} (h : KT ts A B) (he : e ∈ ts) (own : A.ownsRow base e size v n xs) : B.ownsRow base e size v n xs :=
  Sk.ownsRow_kept own (fun g e => by
    obtain ⟨cur, hc⟩ := own_cells own e
    rw [hc]; exact h g _ _ _ he hc)
theorem kf_below {B : Nat} {X Y : World} (h : Below X.heap.size X Y) : KeepsFrom B X Y := KeepsFrom.of_grownBy ⟨h.os, h.tape, h.output, h.size, fun k hk _ => h.block k hk⟩ (row := none) (fun j e => by cases e)
theorem kf_own {W W2 : World} {B B' size n : Nat} {e : TypeId} {v : Value} {xs : List Value} (own : W.ownsRow B e size v n xs) (hg : W.grownBy W2 v.ownBlock) : KeepsFrom B' W W2 :=
  ⟨hg.size, fun k o _ hk ho => (hg.block k (hp_lt hk) (fun h => by
    obtain ⟨cur, hc⟩ := own_cells own h.symm
    rw [hk] at hc; injection hc with hc; subst hc; cases ho)).trans hk⟩
theorem kf_set {W : World} {B b i : Nat} {c : Array Value} {t : TypeId} {f : Nat × Nat} (h : W.heap[b]? = some (.cells c t f)) (v : Value) : KeepsFrom B W (W.setCell ⟨b, i, none⟩ v) :=
  ⟨(grown_set W b i v).size, fun k o _ hk ho => (Below.heap_setCell W ⟨b, i, none⟩ v k (fun e => by
    have e : k = b := by simpa using e
    subst e; rw [h] at hk; injection hk with hk; subst hk; cases ho)).trans hk⟩
end
/-! ## a batch in memory -/
abbrev BX := Bat × Option Addr × Nat
def BX.cells (x : BX) : List Value := [.int .u64 x.1.seq, .slice x.2.1 x.1.l.length x.2.2]
def BX.lies (W : World) (x : BX) : Prop := W.ownsRow 0 63 3 (.slice x.2.1 x.1.l.length x.2.2) x.1.l.length (cCells x.1.l)
def bCells (l : List BX) : List Value := l.flatMap BX.cells
theorem bCells_snoc (l : List BX) (x : BX) : bCells (l ++ [x]) = bCells l ++ x.cells := by simp [bCells]
theorem bflat_at : ∀ (l : List BX) (i : Nat) (hi : i < l.length) (r : Nat), r < 2 → (bCells l)[i * 2 + r]? = l[i].cells[r]?
  | p :: l, 0, _, r, hr => by
    rw [bCells, List.flatMap_cons, Nat.zero_mul, Nat.zero_add, List.getElem?_append_left (by simpa [BX.cells] using hr)]; rfl
  | p :: l, i + 1, hi, r, hr => by
    have e : (i + 1) * 2 + r - p.cells.length = i * 2 + r := by simp [BX.cells]; omega
    rw [bCells, List.flatMap_cons, List.getElem?_append_right (by simp [BX.cells]; omega), e]
    exact bflat_at l i (by simpa using hi) r hr
/-- a row of batches that lies so -/
structure BIn (B : Nat) (t : TypeId) (W : World) (v : Value) (xs : List BX) : Prop where
  own : W.ownsRow B t 2 v xs.length (bCells xs)
  lies : ∀ x ∈ xs, x.lies W
theorem BIn.kept {ts : List TypeId} {b : Nat} {t : TypeId} {A B : World} {v : Value} {xs : List BX} (h : BIn b t A v xs) (k : KT ts A B) (ht : t ∈ ts) (hc : 63 ∈ ts) : BIn b t B v xs :=
  ⟨k.row ht h.own, fun x hx => k.row hc (h.lies x hx)⟩
theorem BIn.nil (b : Nat) (t : TypeId) (W : World) : BIn b t W (.slice none 0 0) [] := ⟨World.ownsRow_nil _ _ _ _, fun x hx => by cases hx⟩
theorem BIn.slice {b : Nat} {t : TypeId} {W : World} {v : Value} {xs : List BX} (h : BIn b t W v xs) : ∃ A c, v = .slice A xs.length c := by
  rcases h.own.2 with ⟨rfl, h0⟩ | ⟨g, cap, cur, rfl, _⟩
  · exact ⟨none, 0, by rw [h0]⟩
  · exact ⟨_, _, rfl⟩
theorem BIn.at {b : Nat} {t : TypeId} {W : World} {A : Option Addr} {c : Nat} {xs : List BX} (h : BIn b t W (.slice A xs.length c) xs) : 0 < xs.length → ∃ g, A = some ⟨g, 0, none⟩ ∧ g < W.heap.size ∧ ∀ i (hi : i < xs.length), W.cell? ⟨g, i * 2, none⟩ = some (.int .u64 xs[i].1.seq) ∧ W.cell? ⟨g, i * 2 + 1, none⟩ = some (.slice xs[i].2.1 xs[i].1.l.length xs[i].2.2) := fun h0 => by
  have hc := fun g hg => h.own.cells (g := g) hg
  rcases h.own.2 with ⟨h1, h2⟩ | ⟨g, cap, cur, h1, _, hg, _⟩
  · omega
  · injection h1 with h1 _ _
    subst h1
    refine ⟨g, rfl, hp_lt hg, fun i hi => ?_⟩
    have hk : ∀ r u, r < 2 → xs[i].cells[r]? = some u → W.cell? ⟨g, i * 2 + r, none⟩ = some u := fun r u hr hu => by
      have := hc g rfl (i * 2 + r) u (by rw [bflat_at xs i hi r hr]; exact hu)
      rwa [add_flat] at this
    exact ⟨hk 0 _ (by decide) rfl, hk 1 _ (by decide) rfl⟩
/-- what an iterator of batches gives -/
def EncB (b : Bat) (args : Array Value) (W : World) : Prop := ∃ A c, args = #[.agg #[.int .u64 b.seq, .slice A b.l.length c]] ∧ BX.lies W (b, A, c)
theorem encB_size (b : Bat) (args : Array Value) (W : World) (h : EncB b args W) : args.size = 1 := by obtain ⟨A, c, rfl, _⟩ := h; rfl
theorem EncB.kept {ts : List TypeId} {b : Bat} {args : Array Value} {A B : World} (h : EncB b args A) (k : KT ts A B) (hc : 63 ∈ ts) : EncB b args B := by
  obtain ⟨a, c, e, hl⟩ := h
  exact ⟨a, c, e, k.row hc hl⟩
/-- a box of a number is turned: what the log's iterator does beside -/
def TnU (B0 : Nat) (A B : World) : Prop := ∃ (k : Nat) (c : Array Value) (fr : Nat × Nat) (v : Value), B0 ≤ k ∧ A.heap[k]? = some (.cells c 29 fr) ∧ B = A.setCell ⟨k, 0, none⟩ v
theorem TnU.kt {ts : List TypeId} {B0 : Nat} {A B : World} (h : TnU B0 A B) (hu : 29 ∉ ts) : KT ts A B := by
  obtain ⟨k, c, fr, v, _, hk, rfl⟩ := h
  exact KT.set hk hu v
theorem TnU.walk {B0 : Nat} {A B : World} (h : TnU B0 A B) : ∀ (k : Nat) (o : Obj), A.heap[k]? = some o → o.isCells = false → B.heap[k]? = some o := by
  obtain ⟨j, c, fr, v, _, hk, rfl⟩ := h
  intro k o ho hc
  exact (Below.heap_setCell A ⟨j, 0, none⟩ v k (fun e => by
    have e : k = j := by simpa using e
    subst e; rw [hk] at ho; injection ho with ho; subst ho; cases hc)).trans ho
theorem kf_tnU {B : Nat} {X Y : World} {B0 : Nat} (h : TnU B0 X Y) : KeepsFrom B X Y := by
  obtain ⟨k, c, fr, v, _, hk, rfl⟩ := h
  exact kf_set hk v
theorem TnU.below {B0 B1 : Nat} {w A C : World} (h : TnU B0 A C) (hb : Below B1 w A) (hB : B1 ≤ B0) : Below B1 w C := by
  obtain ⟨k, c, fr, v, hk0, hk, rfl⟩ := h
  exact hb.setCell (p := ⟨k, 0, none⟩) (by show B1 ≤ k; omega) v
theorem TnU.less {B0 B1 : Nat} {A C : World} (h : TnU B0 A C) (hB : B1 ≤ B0) : TnU B1 A C := by
  obtain ⟨k, c, fr, v, hk0, h2⟩ := h
  exact ⟨k, c, fr, v, by omega, h2⟩
end Go.Proofs.YtdkgieaanpfhcaaGreatDoor.Wa
