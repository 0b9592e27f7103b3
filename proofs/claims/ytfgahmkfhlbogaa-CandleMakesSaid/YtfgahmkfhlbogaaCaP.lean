/-
  What the spans of a row come to; a row of candles that grows. Conditions: as each theorem states.
-/
import Derived.Test.YtfgahmkfhlbogaaCaE
import Derived.Test.YtfgahmkfhlbogaaSkW
namespace Go.Proofs.Ytfgahmkfhlbogaa.Ca
open Go.RowKit Go.Shelf
open Go.Proofs.Ytfgahmkfhlbogaa Go.Proofs.Ytfgahmkfhlbogaa.Hx Go.Proofs.Ytfgahmkfhlbogaa.Rf

theorem parts_mem (n len : Nat) : ∀ (f i : Nat), ∀ x ∈ parts n len f i, x.1 < len ∧ x.2 = min n (len - x.1)
  | 0, _, x, h => by simp [parts] at h
  | f + 1, i, x, h => by
    simp only [parts] at h
    split at h
    · rename_i h1
      rcases List.mem_cons.1 h with rfl | h
      · exact ⟨h1, rfl⟩
      · exact parts_mem n len f _ x h
    · simp at h
theorem parts_len (n len : Nat) (hn : 1 ≤ n) : ∀ (f i : Nat), (parts n len f i).length ≤ len - i
  | 0, _ => by simp [parts]
  | f + 1, i => by
    simp only [parts]
    split
    · have := parts_len n len hn f (i + n)
      simp only [List.length_cons]
      omega
    · simp
section
variable {α : Type} (cd : α → Cd) (l : List α)
/-- the candles of a span -/
def gs (p : Nat × Nat) : List Cd := (seg l p).map cd
/-- all spans' candles -/
def dn (pre : List (Nat × Nat)) : List Cd := pre.map fun p => (joins z0 (gs cd l p)).1
/-- what comes of a row -/
def spR (m : Nat) : List Cd × Int := rows ((spans m l).map (List.map cd))
theorem spR_eq (m : Nat) : spR cd l m = rows ((parts m l.length l.length 0).map (gs cd l)) := by
  unfold spR spans
  rw [List.map_map]
  rfl
theorem spR_all {m : Nat} (h : ∀ p ∈ parts m l.length l.length 0, (joins z0 (gs cd l p)).2 = 0) : spR cd l m = (dn cd l (parts m l.length l.length 0), 0) := by
  rw [spR_eq, rows_all (fun s hs => by obtain ⟨p, hp, rfl⟩ := List.mem_map.1 hs; exact h p hp)]
  unfold done dn
  rw [List.map_map]
  rfl
theorem spR_bad {m : Nat} {pre : List (Nat × Nat)} {x : Nat × Nat} (hp : pre ++ [x] <+: parts m l.length l.length 0) (h : ∀ p ∈ pre, (joins z0 (gs cd l p)).2 = 0) (hx : (joins z0 (gs cd l x)).2 ≠ 0) : spR cd l m = ([], (joins z0 (gs cd l x)).2) := by
  obtain ⟨t, ht⟩ := hp
  rw [spR_eq, ← ht, List.append_assoc, List.map_append]
  exact rows_bad (M := t.map (gs cd l)) (fun s hs => by obtain ⟨p, hp, rfl⟩ := List.mem_map.1 hs; exact h p hp) hx
theorem dn_snoc (pre : List (Nat × Nat)) (x : Nat × Nat) : dn cd l (pre ++ [x]) = dn cd l pre ++ [(joins z0 (gs cd l x)).1] := by simp [dn]
theorem gs_ok (hok : ∀ x ∈ l, (cd x).ok) (p : Nat × Nat) : ∀ d ∈ gs cd l p, d.ok := fun d hd => by
  obtain ⟨e, he, rfl⟩ := List.mem_map.1 hd
  exact hok e (List.mem_of_mem_drop (List.mem_of_mem_take he))
theorem dn_ok (hok : ∀ x ∈ l, (cd x).ok) (pre : List (Nat × Nat)) : ∀ d ∈ dn cd l pre, d.ok := fun d hd => by
  obtain ⟨p, _, rfl⟩ := List.mem_map.1 hd
  exact joins_ok _ z0 z0_ok (gs_ok cd l hok p)
theorem spR_ok (hok : ∀ x ∈ l, (cd x).ok) (m : Nat) : ∀ d ∈ (spR cd l m).1, d.ok := fun d hd => by
  have key : ∀ L : List (List Cd), (∀ s ∈ L, ∀ e ∈ s, e.ok) → ∀ d ∈ (rows L).1, d.ok := by
    intro L
    induction L with
    | nil => intro _ d hd; simp [rows] at hd
    | cons s r ih =>
      intro h d hd
      simp only [rows] at hd
      split at hd
      · split at hd
        · rcases List.mem_cons.1 hd with rfl | hd
          · exact joins_ok _ z0 z0_ok (h s (by simp))
          · exact ih (fun t ht => h t (by simp [ht])) d hd
        · simp at hd
      · simp at hd
  refine key _ (fun s hs e he => ?_) d hd
  rw [spans, List.map_map] at hs
  obtain ⟨p, _, rfl⟩ := List.mem_map.1 hs
  exact gs_ok cd l hok p e he
end
/-! ## a row of candles that grows -/
def cq (c : Cd) : List Value := [.int .i64 c.f, .int .i64 c.h, .int .i64 c.l, .int .i64 c.a, .int .i64 c.s, .int .i64 c.n]
def cCells (l : List Cd) : List Value := l.flatMap cq
theorem cCells_snoc (l : List Cd) (c : Cd) : cCells (l ++ [c]) = cCells l ++ cq c := by simp [cCells]
theorem cCells_len (l : List Cd) : (cCells l).length = l.length * 6 := by
  induction l with
  | nil => rfl
  | cons t l ih => simp only [cCells, List.flatMap_cons, List.length_append, List.length_cons] at ih ⊢; rw [ih]; simp [cq]; omega
theorem cCells_at (l : List Cd) : ∀ (i : Nat) (hi : i < l.length), (cCells l)[i * 6]? = some (.int .i64 l[i].f) ∧ (cCells l)[i * 6 + 1]? = some (.int .i64 l[i].h) ∧ (cCells l)[i * 6 + 2]? = some (.int .i64 l[i].l) ∧
    (cCells l)[i * 6 + 3]? = some (.int .i64 l[i].a) ∧ (cCells l)[i * 6 + 4]? = some (.int .i64 l[i].s) ∧ (cCells l)[i * 6 + 5]? = some (.int .i64 l[i].n) := by
  induction l with
  | nil => intro i hi; simp at hi
  | cons t l ih =>
    intro i hi
    have e : cCells (t :: l) = .int .i64 t.f :: .int .i64 t.h :: .int .i64 t.l :: .int .i64 t.a :: .int .i64 t.s :: .int .i64 t.n :: cCells l := rfl
    cases i with
    | zero => rw [e]; simp
    | succ i =>
      have := ih i (by simpa using hi)
      rw [e, show (i + 1) * 6 = i * 6 + 1 + 1 + 1 + 1 + 1 + 1 by omega]
      simpa using this
theorem crow_of {w : World} {B : Nat} {t : TypeId} {v : Value} {l : List Cd} (h : w.ownsRow B t 6 v l.length (cCells l)) :
    ∃ A c, v = .slice A l.length c ∧ CRow w A l ∧ (A = none → l.length = 0 ∧ c = 0) ∧ l.length ≤ c ∧ c ≤ maxLen := by
  have hc := fun g hg => h.cells (g := g) hg
  rcases h.2 with ⟨rfl, h0⟩ | ⟨g, cap, cur, rfl, hb, hg, h3, h4, _⟩
  · exact ⟨none, 0, by rw [h0], fun h1 => by omega, fun _ => ⟨h0, rfl⟩, by omega, by unfold maxLen; omega⟩
  · refine ⟨some ⟨g, 0, none⟩, cap, rfl, fun _ => ⟨_, rfl, hp_lt hg, fun i hi => ?_⟩, fun e => (by cases e), h3, h4⟩
    obtain ⟨a0, a1, a2, a3, a4, a5⟩ := cCells_at l i hi
    have k := fun j v hj => hc g rfl j v hj
    refine ⟨?_, ?_, ?_, ?_, ?_, ?_⟩
    · simpa [Addr.add] using k _ _ a0
    · rw [Go.Deep.add_add]; simpa [Addr.add] using k _ _ a1
    · rw [Go.Deep.add_add]; simpa [Addr.add] using k _ _ a2
    · rw [Go.Deep.add_add]; simpa [Addr.add] using k _ _ a3
    · rw [Go.Deep.add_add]; simpa [Addr.add] using k _ _ a4
    · rw [Go.Deep.add_add]; simpa [Addr.add] using k _ _ a5
theorem cells_grown {A B : World} {row : Option Nat} (hg : A.grownBy B row) (hr : ∀ r, row = some r → ∃ o : Obj, A.heap[r]? = some o ∧ o.isCells = false) {k : Nat} {c : Array Value} {t : TypeId} {f : Nat × Nat} (hc : A.heap[k]? = some (.cells c t f)) : B.heap[k]? = some (.cells c t f) :=
  (hg.block k (hp_lt hc) (fun e => by
    obtain ⟨o, h1, h2⟩ := hr k e.symm
    rw [hc] at h1; injection h1 with h1; subst h1; cases h2)).trans hc
theorem own_cells {w : World} {base e size n : Nat} {v : Value} {xs : List Value} (h : w.ownsRow base e size v n xs) {g : Nat} (hg : v.ownBlock = some g) : ∃ cur, w.heap[g]? = some (.cells cur e (0, 0)) := by
  rcases h.2 with ⟨rfl, _⟩ | ⟨g', cap, cur, rfl, _, hb, _⟩
  · cases hg
  · injection hg with hg
    subst hg
    exact ⟨cur, hb⟩
theorem own_grown {A B : World} {row : Option Nat} (hg : A.grownBy B row) (hr : ∀ r, row = some r → ∃ o : Obj, A.heap[r]? = some o ∧ o.isCells = false) {base e size n : Nat} {v : Value} {xs : List Value} (h : A.ownsRow base e size v n xs) : B.ownsRow base e size v n xs :=
  Sk.ownsRow_kept h (fun g e => by
    obtain ⟨cur, hc⟩ := own_cells h e
    rw [hc]; exact cells_grown hg hr hc)
theorem crow_at {w : World} {B : Nat} {t : TypeId} {A : Option Addr} {n c : Nat} {l : List Cd} (h : w.ownsRow B t 6 (.slice A n c) l.length (cCells l)) : CRow w A l := by
  obtain ⟨A', c', e, R, _⟩ := crow_of h
  injection e with e1
  subst e1
  exact R
theorem kf_below {B : Nat} {X Y : World} (h : Below X.heap.size X Y) : KeepsFrom B X Y := KeepsFrom.of_grownBy (grown_b h none) (fun j e => by cases e)
theorem kf_own {W W2 : World} {B B' size n : Nat} {e : TypeId} {v : Value} {xs : List Value} (own : W.ownsRow B e size v n xs) (hg : W.grownBy W2 v.ownBlock) : KeepsFrom B' W W2 :=
  ⟨hg.size, fun k o _ hk ho => (hg.block k (hp_lt hk) (fun h => by
    obtain ⟨cur, hc⟩ := own_cells own h.symm
    rw [hk] at hc; injection hc with hc; subst hc; cases ho)).trans hk⟩
theorem kf_set {W : World} {B b i : Nat} {c : Array Value} {t : TypeId} {f : Nat × Nat} (h : W.heap[b]? = some (.cells c t f)) (v : Value) : KeepsFrom B W (W.setCell ⟨b, i, none⟩ v) :=
  ⟨(grown_set W b i v).size, fun k o _ hk ho => set_other hk (fun e => by subst e; rw [h] at hk; injection hk with hk; subst hk; cases ho) v⟩
theorem kpB_own {W W2 : World} {bs bn B size n : Nat} {e : TypeId} {v : Value} {xs : List Value} (own : W.ownsRow B e size v n xs) (hg : W.grownBy W2 v.ownBlock) (h1 : bs < B) (h2 : bn < B) : KpB bs bn W W2 :=
  fun k c t fr hk h => (hg.block k (hp_lt h) (fun e => by have := (own.lt _ e.symm).1; omega)).trans h
theorem kpB_set {W : World} {bs bn b i : Nat} {v : Value} (h1 : b ≠ bs) (h2 : b ≠ bn) : KpB bs bn W (W.setCell ⟨b, i, none⟩ v) := fun k c t fr hk h => set_other h (by omega) v
/-- spans under way -/
structure SpI (w : World) (clo : Value) (tf tl te tc : TypeId) (D : List Cd) (v : Value) (W : World) : Prop where
  f5 : W.heap[w.heap.size]? = some (.cells #[clo] tf (0, 0))
  r6 : W.heap[w.heap.size + 1]? = some (.cells #[.slice none 0 0] tl (0, 0))
  r7 : W.heap[w.heap.size + 1 + 1]? = some (.cells #[.int .i64 0] te (0, 0))
  o8 : W.heap[w.heap.size + 1 + 1 + 1]? = some (.cells #[v] tl (0, 0))
  own : W.ownsRow (w.heap.size + 6) tc 6 v D.length (cCells D)
  below : Below w.heap.size w W
  size : w.heap.size + 6 ≤ W.heap.size
section
variable {w W W2 : World} {clo v v2 : Value} {tf tl te tc : TypeId} {D D2 : List Cd}
theorem SpI.on (h : SpI w clo tf tl te tc D v W) (hb : Below W.heap.size W W2) : SpI w clo tf tl te tc D v W2 :=
  ⟨hp_on h.f5 hb, hp_on h.r6 hb, hp_on h.r7 hb, hp_on h.o8 hb, own_on h.own hb, below_on h.below h.below.size hb, Nat.le_trans h.size hb.size⟩
theorem SpI.free {row : Option Nat} (h : SpI w clo tf tl te tc D v W) (hg : W.grownBy W2 row) (hr : ∀ r, row = some r → w.heap.size ≤ r ∧ ∃ o : Obj, W.heap[r]? = some o ∧ o.isCells = false) : SpI w clo tf tl te tc D v W2 :=
  have hr2 : ∀ r, row = some r → ∃ o : Obj, W.heap[r]? = some o ∧ o.isCells = false := fun r e => (hr r e).2
  ⟨cells_grown hg hr2 h.f5, cells_grown hg hr2 h.r6, cells_grown hg hr2 h.r7, cells_grown hg hr2 h.o8, own_grown hg hr2 h.own,
   h.below.trans ⟨hg.os, hg.tape, hg.output, hg.size, fun k hk => hg.block k (Nat.lt_of_lt_of_le hk h.below.size) (fun e => by have := (hr k e.symm).1; omega)⟩, Nat.le_trans h.size hg.size⟩
theorem SpI.put (h : SpI w clo tf tl te tc D v W) (hg : W.grownBy W2 v.ownBlock) (ho : W2.ownsRow (w.heap.size + 6) tc 6 v2 D2.length (cCells D2)) : SpI w clo tf tl te tc D2 v2 (W2.setCell ⟨w.heap.size + 1 + 1 + 1, 0, none⟩ v2) := by
  have hs := h.size
  have ne : ∀ k, k < w.heap.size + 6 → some k ≠ v.ownBlock := fun k hk e => by have := (h.own.lt _ e.symm).1; omega
  have bl : ∀ k, k < w.heap.size + 6 → W2.heap[k]? = W.heap[k]? := fun k hk => hg.block k (by omega) (ne k hk)
  refine ⟨set_other ((bl _ (by omega)).trans h.f5) (by omega) _, set_other ((bl _ (by omega)).trans h.r6) (by omega) _, set_other ((bl _ (by omega)).trans h.r7) (by omega) _, set1_row ((bl _ (by omega)).trans h.o8) _, own_set ho (by omega), ?_, by simp; have := hg.size; omega⟩
  exact (h.below.trans ⟨hg.os, hg.tape, hg.output, hg.size, fun k hk => bl k (by omega)⟩).setCell (p := ⟨w.heap.size + 1 + 1 + 1, 0, none⟩) (by simp; omega) _
end
/-- it ended with an error -/
structure SpX (w : World) (tl te : TypeId) (r : List Cd × Int) (cd : Code) (W : World) : Prop where
  cd : cd = .ret
  nil : r.1 = []
  r6 : W.heap[w.heap.size + 1]? = some (.cells #[.slice none 0 0] tl (0, 0))
  r7 : W.heap[w.heap.size + 1 + 1]? = some (.cells #[.int .i64 r.2] te (0, 0))
  below : Below w.heap.size w W
theorem SpX.free {w W W2 : World} {tl te : TypeId} {r : List Cd × Int} {cd : Code} {row : Option Nat} (h : SpX w tl te r cd W) (hg : W.grownBy W2 row) (hr : ∀ r, row = some r → w.heap.size ≤ r ∧ ∃ o : Obj, W.heap[r]? = some o ∧ o.isCells = false) : SpX w tl te r cd W2 :=
  have hr2 : ∀ r, row = some r → ∃ o : Obj, W.heap[r]? = some o ∧ o.isCells = false := fun r e => (hr r e).2
  ⟨h.cd, h.nil, cells_grown hg hr2 h.r6, cells_grown hg hr2 h.r7,
   h.below.trans ⟨hg.os, hg.tape, hg.output, hg.size, fun k hk => hg.block k (Nat.lt_of_lt_of_le hk h.below.size) (fun e => by have := (hr k e.symm).1; omega)⟩⟩
end Go.Proofs.Ytfgahmkfhlbogaa.Ca
