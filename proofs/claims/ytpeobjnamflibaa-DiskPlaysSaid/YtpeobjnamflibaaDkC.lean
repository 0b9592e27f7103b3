/-
  A disk as it lies in memory: its block, its map, its files' blocks and bytes; what one call may turn of it. Conditions: as each theorem states.
-/
import Derived.Test.YtpeobjnamflibaaDkL
namespace Go.Proofs.Ytpeobjnamflibaa.Dk
open Go.RowKit Go.Maps

/-! ### only some blocks turn -/
structure Only (fp : List Nat) (w w' : World) : Prop where
  os : w'.os = w.os
  tape : w'.tape = w.tape
  output : w'.output = w.output
  size : w.heap.size ≤ w'.heap.size
  block : ∀ k, k < w.heap.size → k ∉ fp → w'.heap[k]? = w.heap[k]?
/-- from footprint fp to fp': only fp's blocks turn, and what is new in fp' is new in memory -/
structure Moves (w : World) (fp : List Nat) (w' : World) (fp' : List Nat) : Prop where
  only : Only fp w w'
  fresh : ∀ k ∈ fp', k ∈ fp ∨ w.heap.size ≤ k
theorem Only.refl (fp : List Nat) (w : World) : Only fp w w := ⟨rfl, rfl, rfl, Nat.le_refl _, fun _ _ _ => rfl⟩
theorem Moves.refl (fp : List Nat) (w : World) : Moves w fp w fp := ⟨Only.refl _ _, fun _ h => Or.inl h⟩
theorem Moves.trans {w w1 w2 : World} {fp fp1 fp2 : List Nat} (h : Moves w fp w1 fp1) (k : Moves w1 fp1 w2 fp2) : Moves w fp w2 fp2 := by
  have hs1 := h.only.size
  have hs2 := k.only.size
  refine ⟨⟨k.only.os.trans h.only.os, k.only.tape.trans h.only.tape, k.only.output.trans h.only.output, Nat.le_trans hs1 hs2, fun i hi hn => ?_⟩, fun i hi => ?_⟩
  · refine (k.only.block i (Nat.lt_of_lt_of_le hi hs1) (fun hm => ?_)).trans (h.only.block i hi hn)
    rcases h.fresh i hm with h1 | h1
    · exact hn h1
    · omega
  · rcases k.fresh i hi with h1 | h1
    · exact h.fresh i h1
    · exact Or.inr (by omega)
theorem Only.of_grown {fp : List Nat} {w w' : World} {row : Option Nat} (h : w.grownBy w' row) (hr : ∀ k, row = some k → k ∈ fp) : Only fp w w' :=
  ⟨h.os, h.tape, h.output, h.size, fun k hk hn => h.block k hk (fun e => hn (hr k e.symm))⟩
theorem Only.of_below {fp : List Nat} {w w' : World} (h : Below w.heap.size w w') : Only fp w w' := ⟨h.os, h.tape, h.output, h.size, fun k hk _ => h.block k hk⟩
theorem Only.trans {fp : List Nat} {w w1 w2 : World} (h : Only fp w w1) (k : Only fp w1 w2) : Only fp w w2 :=
  ⟨k.os.trans h.os, k.tape.trans h.tape, k.output.trans h.output, Nat.le_trans h.size k.size, fun i hi hn => (k.block i (Nat.lt_of_lt_of_le hi h.size) hn).trans (h.block i hi hn)⟩
theorem Moves.below {w w' : World} {fp fp' : List Nat} (h : Moves w fp w' fp') {base : Nat} (hl : ∀ k ∈ fp, base ≤ k) (hb : base ≤ w.heap.size) : Below base w w' :=
  ⟨h.only.os, h.only.tape, h.only.output, h.only.size, fun k hk => h.only.block k (by omega) (fun hm => by have := hl k hm; omega)⟩
theorem Moves.low {w w' : World} {fp fp' : List Nat} (h : Moves w fp w' fp') {base : Nat} (hl : ∀ k ∈ fp, base ≤ k) (hb : base ≤ w.heap.size) : ∀ k ∈ fp', base ≤ k := by
  intro k hk
  rcases h.fresh k hk with h1 | h1
  · exact hl k h1
  · omega

/-! ### files -/
def ptrElem : Value → Option (DataW Unit × List MemPlace)
  | .pointer none => some (.nil, [])
  | .pointer (some ⟨F, 0, none⟩) => some (.lit (.int .i64 (F : Int)), [])
  | _ => none
theorem ptrElem_nil {v : Value} {ps : List MemPlace} (h : ptrElem v = some (.nil, ps)) : v = .pointer none := by
  unfold ptrElem at h
  split at h
  · rfl
  · simp at h
  · cases h
theorem ptrElem_at {v : Value} {F : Nat} {ps : List MemPlace} (h : ptrElem v = some (.lit (.int .i64 (F : Int)), ps)) : v = .pointer (some ⟨F, 0, none⟩) := by
  unfold ptrElem at h
  split at h
  · simp at h
  · rename_i F'
    have h1 : (F' : Int) = (F : Int) := by have := congrArg (fun o => o.map (·.1)) h; simpa using this
    obtain rfl : F' = F := by omega
    rfl
  · cases h

def u8v (b : UInt8) : Value := .int .u8 b.toNat
structure Ent where
  name : List UInt8
  bytes : List UInt8
  sure : Nat
  blk : Nat
  v : Value
def fileCells (e : Ent) : Array Value := #[e.v, .int .i64 (e.sure : Int)]
structure FileAt (w : World) (e : Ent) : Prop where
  cells : w.heap[e.blk]? = some (.cells (fileCells e) 62 (0, 0))
  row : w.ownsRow 0 5 1 e.v e.bytes.length (e.bytes.map u8v)
  sure : e.sure ≤ e.bytes.length
def Ent.foot (e : Ent) : List Nat := e.blk :: e.v.ownBlock.toList
/-- how many bytes all files have -/
def usedL (L : List Ent) : Nat := (L.map fun e => e.bytes.length).sum
def feet (d m : Nat) (L : List Ent) : List Nat := d :: m :: L.flatMap Ent.foot

theorem ownsRow_lt {w : World} {base e size n g : Nat} {v : Value} {xs : List Value} (h : w.ownsRow base e size v n xs) (hg : v.ownBlock = some g) : g < w.heap.size := by
  rcases h.2 with ⟨rfl, _⟩ | ⟨g', cap, cur, rfl, _, hh, _⟩
  · cases hg
  · have : g' = g := by simpa [Value.ownBlock] using hg
    subst this
    exact (Array.getElem?_eq_some_iff.1 hh).1
theorem ownsRow_kept {w w' : World} {base e size n : Nat} {v : Value} {xs : List Value} (h : w.ownsRow base e size v n xs) (hk : ∀ g, v.ownBlock = some g → w'.heap[g]? = w.heap[g]?) : w'.ownsRow base e size v n xs := by
  refine ⟨h.1, ?_⟩
  rcases h.2 with h1 | ⟨g', cap, cur, rfl, hb, hh, r⟩
  · exact Or.inl h1
  · exact Or.inr ⟨g', cap, cur, rfl, hb, by rw [hk g' rfl]; exact hh, r⟩
theorem FileAt.lt {w : World} {e : Ent} (h : FileAt w e) : ∀ k ∈ e.foot, k < w.heap.size := by
  intro k hk
  unfold Ent.foot at hk
  rcases List.mem_cons.1 hk with rfl | hk
  · exact (Array.getElem?_eq_some_iff.1 h.cells).1
  · exact ownsRow_lt h.row (by simpa using hk)
theorem FileAt.kept {w w' : World} {e : Ent} (h : FileAt w e) (hk : ∀ k ∈ e.foot, w'.heap[k]? = w.heap[k]?) : FileAt w' e :=
  ⟨by rw [hk e.blk (by simp [Ent.foot])]; exact h.cells, ownsRow_kept h.row (fun g hg => hk g (by simp [Ent.foot, hg])), h.sure⟩

/-! ### the disk -/
structure MapIs (D : DataW Unit) (L : List Ent) : Prop where
  has : ∀ x, Maps.has D (.string x) = true ↔ ∃ e ∈ L, e.name = x
  here : ∀ e ∈ L, D.atKey (.string e.name) .nil = .lit (.int .i64 (e.blk : Int))
  size : Maps.size D = L.length
structure DiskAt (w : World) (d m : Nat) (L : List Ent) (room steps fuse fault : Int) (down : Bool) : Prop where
  disk : DiskIs w d m room steps fuse fault down
  map : ∃ D, w.ownsMap Try.prog 9 ptrElem m L.length D ∧ MapIs D L
  files : ∀ e ∈ L, FileAt w e
  names : L.Pairwise (fun a b => a.name ≠ b.name)
  short : ∀ e ∈ L, e.name.length ≤ 32
  apart : (feet d m L).Nodup
  few : L.length ≤ 200
  vol : usedL L ≤ 16777216

theorem key9 : Maps.Keyed Try.prog 9 := Maps.string_keyed Try.underlying9
theorem keyOf9 {s : ByteArray} (h : s.size ≤ maxLen) : keyOf Try.prog 9 (.string s) = some (.string s.data.toList) := WideMaps.keyOf_string_mk Try.underlying9 h
theorem mem_feet {d m k : Nat} {L : List Ent} : k ∈ feet d m L ↔ k = d ∨ k = m ∨ ∃ e ∈ L, k ∈ e.foot := by
  simp [feet]
theorem DiskAt.lt {w : World} {d m : Nat} {L : List Ent} {room steps fuse fault : Int} {down : Bool} (h : DiskAt w d m L room steps fuse fault down) : ∀ k ∈ feet d m L, k < w.heap.size := by
  intro k hk
  rcases mem_feet.1 hk with rfl | rfl | ⟨e, he, hke⟩
  · exact (Array.getElem?_eq_some_iff.1 h.disk).1
  · obtain ⟨D, ho, _⟩ := h.map
    exact ho.lt
  · exact (h.files e he).lt k hke
/-- the map tightened: no more entries than it has -/
theorem own_tight {w : World} {m n : Nat} {D : DataW Unit} (h : w.ownsMap Try.prog 9 ptrElem m n D) : w.ownsMap Try.prog 9 ptrElem m (Maps.size D) D := by
  obtain ⟨es, clock, hb, F, _, rfl⟩ := h
  refine ⟨es, clock, hb, F, ?_, rfl⟩
  rw [Maps.size_eq, length_read]
  exact Nat.le_refl _
theorem own_kept {w w' : World} {m n : Nat} {D : DataW Unit} (h : w.ownsMap Try.prog 9 ptrElem m n D) (hk : w'.heap[m]? = w.heap[m]?) : w'.ownsMap Try.prog 9 ptrElem m n D := by
  obtain ⟨es, clock, hb, F, hs, hD⟩ := h
  exact ⟨es, clock, hk.trans hb, F, hs, hD⟩
/-- the disk's own block turns, nothing else -/
theorem DiskAt.step {w w' : World} {d m : Nat} {L : List Ent} {room steps fuse fault room' steps' fuse' fault' : Int} {down down' : Bool} (h : DiskAt w d m L room steps fuse fault down)
    (hd : DiskIs w' d m room' steps' fuse' fault' down') (hg : w.grownBy w' (some d)) : DiskAt w' d m L room' steps' fuse' fault' down' ∧ Moves w (feet d m L) w' (feet d m L) := by
  have hap := h.apart
  have hkeep : ∀ k, k ∈ feet d m L → k ≠ d → w'.heap[k]? = w.heap[k]? := fun k hk hne => hg.block k (h.lt k hk) (fun e => hne (by injection e))
  have hnd : ∀ k ∈ (m :: L.flatMap Ent.foot), k ≠ d := by
    intro k hk e
    subst e
    exact (List.nodup_cons.1 hap).1 hk
  obtain ⟨D, ho, hM⟩ := h.map
  refine ⟨⟨hd, ⟨D, own_kept ho (hkeep m (by simp [feet]) (hnd m (by simp))), hM⟩, fun e he => (h.files e he).kept (fun k hk => hkeep k (mem_feet.2 (Or.inr (Or.inr ⟨e, he, hk⟩))) (hnd k ?_)), h.names, h.short, h.apart, h.few, h.vol⟩,
    ⟨Only.of_grown hg (fun k e => by injection e with e; subst e; simp [feet]), fun k hk => Or.inl hk⟩⟩
  exact List.mem_cons_of_mem _ (List.mem_flatMap.2 ⟨e, he, hk⟩)
/-- only new blocks are laid -/
theorem DiskAt.below {w w' : World} {d m : Nat} {L : List Ent} {room steps fuse fault : Int} {down : Bool} (h : DiskAt w d m L room steps fuse fault down) (hb : Below w.heap.size w w') : DiskAt w' d m L room steps fuse fault down := by
  have hkeep : ∀ k, k ∈ feet d m L → w'.heap[k]? = w.heap[k]? := fun k hk => hb.block k (h.lt k hk)
  obtain ⟨D, ho, hM⟩ := h.map
  exact ⟨(hkeep d (by simp [feet])).trans h.disk, ⟨D, own_kept ho (hkeep m (by simp [feet])), hM⟩, fun e he => (h.files e he).kept (fun k hk => hkeep k (mem_feet.2 (Or.inr (Or.inr ⟨e, he, hk⟩)))), h.names, h.short, h.apart, h.few, h.vol⟩

/-! ### look-ups -/
theorem look_hit {w : World} {m n : Nat} {D : DataW Unit} {L : List Ent} (ho : w.ownsMap Try.prog 9 ptrElem m n D) (hM : MapIs D L) {s : ByteArray} (hs : s.size ≤ maxLen) {e : Ent} (he : e ∈ L) (hn : e.name = s.data.toList) :
    (Instr.lookup 42 (.map (some m)) (.string s) false).run Try.prog w = .ok (.pointer (some ⟨e.blk, 0, none⟩)) w := by
  obtain ⟨v, ps, hr, hv⟩ := ho.lookup key9 Try.underlying42 (Try.zeroValue59 w) (zd := .nil) (zp := []) rfl (keyOf9 hs)
  rw [← hn, hM.here e he] at hv
  rw [hr, ptrElem_at hv]
theorem look_miss {w : World} {m n : Nat} {D : DataW Unit} {L : List Ent} (ho : w.ownsMap Try.prog 9 ptrElem m n D) (hM : MapIs D L) {s : ByteArray} (hs : s.size ≤ maxLen) (hn : ∀ e ∈ L, e.name ≠ s.data.toList) :
    (Instr.lookup 42 (.map (some m)) (.string s) false).run Try.prog w = .ok (.pointer none) w := by
  obtain ⟨v, ps, hr, hv⟩ := ho.lookup key9 Try.underlying42 (Try.zeroValue59 w) (zd := .nil) (zp := []) rfl (keyOf9 hs)
  have hh : Maps.has D (.string s.data.toList) = false := by
    cases hb : Maps.has D (.string s.data.toList) with
    | false => rfl
    | true => obtain ⟨e, he, hne⟩ := (hM.has _).1 hb; exact absurd hne (hn e he)
  rw [Maps.atKey_of_not_has hh] at hv
  rw [hr, ptrElem_nil hv]
end Go.Proofs.Ytpeobjnamflibaa.Dk
