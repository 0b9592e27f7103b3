/-
  A key's spot in a skip list, sought: the Go text walked. Conditions: as each theorem states.
-/
import Derived.Test.YtadejeoiffaimaaDoorSkA
namespace Go.Proofs.YtadejeoiffaimaaDoor.Sk
open Go.RowKit

def spotCells (ah : Nat → Nat) (at_ : Nat) (there : Bool) (st : Nat) : List Value := links ah ++ [.int .i32 (at_ : Nat), .bool there, .int .i64 (st : Nat)]
def spotV (ah : Nat → Nat) (at_ : Nat) (there : Bool) (st : Nat) : Value := .agg (spotCells ah at_ there st).toArray
structure SpotW (w w' : World) (ah : Nat → Nat) (sat : Nat) (th : Bool) (st : Nat) : Prop where
  below : Below w.heap.size w w'
  res : w'.heap[w.heap.size]? = some (.cells (spotCells (fun _ => 0) 0 false 0).toArray 74 (0, 0))
  spt : w'.heap[w.heap.size + 1]? = some (.cells (spotCells ah sat th st).toArray 74 (0, 0))
section
variable {w w' : World} {ah : Nat → Nat} {sat st : Nat} {th : Bool}
theorem SpotW.cells (h : SpotW w w' ah sat th st) : w'.cell? ⟨w.heap.size + 1, 12, none⟩ = some (.int .i32 (sat : Nat)) ∧ w'.cell? ⟨w.heap.size + 1, 13, none⟩ = some (.bool th) ∧ w'.cell? ⟨w.heap.size + 1, 14, none⟩ = some (.int .i64 (st : Nat)) :=
  ⟨cell_in h.spt 12 _ rfl, cell_in h.spt 13 _ rfl, cell_in h.spt 14 _ rfl⟩
theorem SpotW.free (h : SpotW w w' ah sat th st) (j : Nat) : w'.frozen? ⟨w.heap.size + 1, j, none⟩ = false := free_in h.spt j
theorem SpotW.link (h : SpotW w w' ah sat th st) {j : Nat} (hj : j < 12) : w'.cell? ⟨w.heap.size + 1, j, none⟩ = some (.int .i32 (ah j : Nat)) := cell_in h.spt j _ (by
  rw [List.getElem?_toArray, spotCells, List.getElem?_append_left (by rw [links_len]; exact hj), links_at ah hj])
theorem upd_links (ah : Nat → Nat) (x : Nat) (r : List Value) {j : Nat} (hj : j < 12) : (links ah ++ r).toArray.setIfInBounds j (.int .i32 (x : Nat)) = (links (upd ah j x) ++ r).toArray := by
  have hj' : j = 0 ∨ j = 1 ∨ j = 2 ∨ j = 3 ∨ j = 4 ∨ j = 5 ∨ j = 6 ∨ j = 7 ∨ j = 8 ∨ j = 9 ∨ j = 10 ∨ j = 11 := by omega
  rcases hj' with rfl | rfl | rfl | rfl | rfl | rfl | rfl | rfl | rfl | rfl | rfl | rfl <;> simp [links, upd, List.range_succ]
theorem SpotW.set {c : List Value} (h : SpotW w w' ah sat th st) (j : Nat) (x : Value) : Below w.heap.size w (w'.setCell ⟨w.heap.size + 1, j, none⟩ x) ∧ (w'.setCell ⟨w.heap.size + 1, j, none⟩ x).heap[w.heap.size]? = some (.cells (spotCells (fun _ => 0) 0 false 0).toArray 74 (0, 0)) ∧
    (w'.setCell ⟨w.heap.size + 1, j, none⟩ x).heap[w.heap.size + 1]? = some (.cells ((spotCells ah sat th st).toArray.setIfInBounds j x) 74 (0, 0)) :=
  ⟨h.below.setCell (p := ⟨w.heap.size + 1, j, none⟩) (by simp) _, (Below.heap_setCell _ _ _ _ (by simp)).trans h.res, heap_set h.spt j x⟩
theorem SpotW.ahead (h : SpotW w w' ah sat th st) {j : Nat} (hj : j < 12) (x : Nat) : SpotW w (w'.setCell ⟨w.heap.size + 1, j, none⟩ (.int .i32 (x : Nat))) (upd ah j x) sat th st := by
  obtain ⟨h1, h2, h3⟩ := h.set (c := []) j (.int .i32 (x : Nat))
  refine ⟨h1, h2, h3.trans ?_⟩
  unfold spotCells
  rw [upd_links ah x _ hj]
theorem SpotW.at_ (h : SpotW w w' ah sat th st) (x : Nat) : SpotW w (w'.setCell ⟨w.heap.size + 1, 12, none⟩ (.int .i32 (x : Nat))) ah x th st := by
  obtain ⟨h1, h2, h3⟩ := h.set (c := []) 12 (.int .i32 (x : Nat))
  exact ⟨h1, h2, h3.trans (by rfl)⟩
theorem SpotW.there (h : SpotW w w' ah sat th st) (x : Bool) : SpotW w (w'.setCell ⟨w.heap.size + 1, 13, none⟩ (.bool x)) ah sat x st := by
  obtain ⟨h1, h2, h3⟩ := h.set (c := []) 13 (.bool x)
  exact ⟨h1, h2, h3.trans (by rfl)⟩
theorem SpotW.step (h : SpotW w w' ah sat th st) {y : Int} (hy : y = ((st + 1 : Nat) : Int)) : SpotW w (w'.setCell ⟨w.heap.size + 1, 14, none⟩ (.int .i64 y)) ah sat th (st + 1) := by
  subst hy
  obtain ⟨h1, h2, h3⟩ := h.set (c := []) 14 (.int .i64 ((st + 1 : Nat) : Int))
  exact ⟨h1, h2, h3.trans (by rfl)⟩
end
def thereB (s : Ls) (k : ByteArray) (p : Nat) : Bool := decide (p ≠ 0 ∧ s.K p = k)
/-- how far a search has come -/
structure SeekI (s : Ls) (k : ByteArray) (p lv : Nat) (ah : Nat → Nat) (st : Nat) : Prop where
  hlv : lv < 12
  hpos : p ≤ pos s k
  hon : p = 0 ∨ lv < s.H (atp s.S p)
  hah : ∀ j, lv < j → j < 12 → ah j = prv s.H s.S (pos s k) j
  hst : st + lv ≤ p + 11
def SkJ (l : Nat) (s : Ls) (k : ByteArray) (w : World) (a' : Act) (w' : World) : Prop :=
  ∃ (p lv : Nat) (ah : Nat → Nat) (st : Nat) (u8 u9 u10 u11 u12 u13 u14 u15 u16 u17 u18 u19 u20 u21 u22 u23 u24 u25 u26 u27 u28 u29 u30 u31 u32 u33 u34 u35 u36 u37 u38 u39 u40 u41 u42 u43 u44 u45 u46 u47 u48 u49 u50 u51 u52 u53 : Value), SeekI s k p lv ah st ∧ SpotW w w' ah (nxt s.H s.S (pos s k) (lv + 1)) (thereB s k (nxt s.H s.S (pos s k) (lv + 1))) st ∧
    a' = { tmps := #[.pointer (some ⟨l, 0, none⟩), .string k, undef, undef, .pointer (some ⟨w.heap.size, 0, none⟩), .pointer (some ⟨w.heap.size + 1, 0, none⟩), .int .i32 (atp s.S p : Nat), .int .i64 (lv : Nat), u8, u9, u10, u11, u12, u13, u14, u15, u16, u17, u18, u19, u20, u21, u22, u23, u24, u25, u26, u27, u28, u29, u30, u31, u32, u33, u34, u35, u36, u37, u38, u39, u40, u41, u42, u43, u44, u45, u46, u47, u48, u49, u50, u51, u52, u53], defers := [] }
def skMu (s : Ls) (a' : Act) : Nat := (intOf (a'.tmps.getD 7 undef)).toNat * (s.n + 1) + (s.n - (0 :: s.S).idxOf (intOf (a'.tmps.getD 6 undef)).toNat)
def SeekPost (s : Ls) (k : ByteArray) (w : World) (e : Ending) (w' : World) : Prop :=
  ∃ st : Nat, st ≤ s.n + 12 ∧ e = .returned (spotV (prv s.H s.S (pos s k)) (nxt s.H s.S (pos s k) 0) (thereB s k (nxt s.H s.S (pos s k) 0)) st) ∧ Below w.heap.size w w'
theorem idx_atp {s : Ls} (ok : Ok s) {p : Nat} (hp : p ≤ s.n) : (0 :: s.S).idxOf (atp s.S p) = p := by
  have hlen := ok.len
  have hm : atp s.S p ∈ (0 :: s.S) := by
    by_cases e : p = 0
    · subst e; simp [atp_zero]
    · exact List.mem_cons_of_mem _ (atp_mem e (by omega))
  have hi := List.idxOf_lt_length_of_mem hm
  have he : (0 :: s.S)[(0 :: s.S).idxOf (atp s.S p)] = atp s.S p := List.getElem_idxOf hi
  have hi' : (0 :: s.S).idxOf (atp s.S p) ≤ s.S.length := by simp at hi; omega
  refine atp_inj ok.nodup (fun q hq => (ok.mem q hq).1) hi' (by omega) ?_
  rw [atp, List.getD_eq_getElem?_getD, List.getElem?_eq_getElem hi, he]; rfl
theorem atp_le {s : Ls} (ok : Ok s) {p : Nat} (hp : p ≤ s.n) : atp s.S p ≤ s.n := by
  by_cases e : p = 0
  · subst e; rw [atp_zero]; omega
  · exact (ok.mem _ (atp_mem e (by rw [ok.len]; exact hp))).2
theorem skJ_mk {l : Nat} {s : Ls} {k : ByteArray} {w w' : World} {p lv st : Nat} {ah : Nat → Nat} {x y : Int} (hx : x = (atp s.S p : Nat)) (hy : y = (lv : Nat)) (I : SeekI s k p lv ah st) (W : SpotW w w' ah (nxt s.H s.S (pos s k) (lv + 1)) (thereB s k (nxt s.H s.S (pos s k) (lv + 1))) st) (u8 u9 u10 u11 u12 u13 u14 u15 u16 u17 u18 u19 u20 u21 u22 u23 u24 u25 u26 u27 u28 u29 u30 u31 u32 u33 u34 u35 u36 u37 u38 u39 u40 u41 u42 u43 u44 u45 u46 u47 u48 u49 u50 u51 u52 u53 : Value) :
    SkJ l s k w { tmps := #[.pointer (some ⟨l, 0, none⟩), .string k, undef, undef, .pointer (some ⟨w.heap.size, 0, none⟩), .pointer (some ⟨w.heap.size + 1, 0, none⟩), .int .i32 x, .int .i64 y, u8, u9, u10, u11, u12, u13, u14, u15, u16, u17, u18, u19, u20, u21, u22, u23, u24, u25, u26, u27, u28, u29, u30, u31, u32, u33, u34, u35, u36, u37, u38, u39, u40, u41, u42, u43, u44, u45, u46, u47, u48, u49, u50, u51, u52, u53], defers := [] } w' :=
  ⟨p, lv, ah, st, u8, u9, u10, u11, u12, u13, u14, u15, u16, u17, u18, u19, u20, u21, u22, u23, u24, u25, u26, u27, u28, u29, u30, u31, u32, u33, u34, u35, u36, u37, u38, u39, u40, u41, u42, u43, u44, u45, u46, u47, u48, u49, u50, u51, u52, u53, I, W, by rw [hx, hy]⟩
theorem cell_other {W : World} {p a : Addr} {x : Value} (y : Value) (h : p.block ≠ a.block) (hc : W.cell? p = some x) : (W.setCell a y).cell? p = some x := by
  rw [← hc]; unfold World.cell?; rw [Below.heap_setCell _ _ _ _ h]
theorem mu_down {s : Ls} {p lv : Nat} (h : 0 < lv) : ((lv : Int) - 1).toNat * (s.n + 1) + (s.n - (0 :: s.S).idxOf ((atp s.S p : Nat) : Int).toNat) < ((lv : Nat) : Int).toNat * (s.n + 1) + (s.n - (0 :: s.S).idxOf ((atp s.S p : Nat) : Int).toNat) := by
  have e1 : ((lv : Int) - 1).toNat = lv - 1 := by omega
  have e2 : ((lv : Nat) : Int).toNat = (lv - 1) + 1 := by omega
  rw [e1, e2, Nat.succ_mul]; omega
theorem mu_adv {s : Ls} (ok : Ok s) {p j lv : Nat} (hj : j < s.S.length) (hp : p ≤ j) : ((lv : Nat) : Int).toNat * (s.n + 1) + (s.n - (0 :: s.S).idxOf ((s.S[j] : Nat) : Int).toNat) < ((lv : Nat) : Int).toNat * (s.n + 1) + (s.n - (0 :: s.S).idxOf ((atp s.S p : Nat) : Int).toNat) := by
  have hl := ok.len
  have e1 : ((s.S[j] : Nat) : Int).toNat = atp s.S (j + 1) := by rw [atp_succ hj]; omega
  have e2 : ((atp s.S p : Nat) : Int).toNat = atp s.S p := by omega
  rw [e1, e2, idx_atp ok (by omega), idx_atp ok (by omega)]; omega
theorem down_I {s : Ls} {k : ByteArray} {p lv st st' : Nat} {ah : Nat → Nat} (I : SeekI s k p lv ah st) (h0 : 0 < lv) (hst : st' ≤ st + 1) (hno : ∀ i (h : i < s.S.length), p ≤ i → i < pos s k → ¬ lv < s.H s.S[i]) : SeekI s k p (lv - 1) (upd ah lv (atp s.S p)) st' := by
  have h1 := I.hlv
  have h2 := I.hst
  refine ⟨by omega, I.hpos, I.hon.imp id (fun h => by omega), fun j hj hj2 => ?_, by omega⟩
  by_cases e : j = lv
  · subst e; rw [upd_same]; exact (prv_to I.hpos (pos_le' s k) hno I.hon).symm
  · rw [upd_ne _ _ e]; exact I.hah j (by omega) hj2
theorem last_ah {s : Ls} {k : ByteArray} {p st : Nat} {ah : Nat → Nat} (I : SeekI s k p 0 ah st) (hno : ∀ i (h : i < s.S.length), p ≤ i → i < pos s k → ¬ 0 < s.H s.S[i]) : ∀ j, j < 12 → upd ah 0 (atp s.S p) j = prv s.H s.S (pos s k) j := fun j hj => by
  by_cases e : j = 0
  · subst e; rw [upd_same]; exact (prv_to I.hpos (pos_le' s k) hno I.hon).symm
  · rw [upd_ne _ _ e]; exact I.hah j (by omega) hj
theorem adv_I {s : Ls} {k : ByteArray} {p lv st j : Nat} {ah : Nat → Nat} (I : SeekI s k p lv ah st) (hj : j < s.S.length) (hp : p ≤ j) (hk : j < pos s k) (hh : lv < s.H s.S[j]) : SeekI s k (j + 1) lv ah (st + 1) :=
  ⟨I.hlv, hk, .inr (by rw [atp_succ hj]; exact hh), I.hah, by have := I.hst; omega⟩
theorem links_congr {f g : Nat → Nat} (h : ∀ j, j < 12 → f j = g j) : links f = links g := by
  unfold links
  exact List.map_congr_left fun j hj => by rw [h j (List.mem_range.1 hj)]
theorem nxt_none_up {H : Nat → Nat} {S : List Nat} {a p lv : Nat} (hp : p ≤ a) (h : ∀ i (h : i < S.length), p ≤ i → ¬ lv < H S[i]) : nxt H S a lv = 0 ∧ nxt H S a (lv + 1) = 0 := by
  constructor
  · rcases nxt_cases H S lv S.length a (by omega) with ⟨g, _⟩ | ⟨j, hj, g1, _, g3, _⟩
    · exact g
    · exact absurd g3 (h j hj (by omega))
  · rcases nxt_cases H S (lv + 1) S.length a (by omega) with ⟨g, _⟩ | ⟨j, hj, g1, _, g3, _⟩
    · exact g
    · exact absurd (by omega) (h j hj (by omega))
theorem nxt_from {H : Nat → Nat} {S : List Nat} {a p j lv : Nat} (hpa : p ≤ a) (ha : a ≤ S.length) (hj : j < S.length) (haj : a ≤ j) (h3 : lv < H S[j]) (h4 : ∀ i (h : i < S.length), p ≤ i → i < j → ¬ lv < H S[i]) : nxt H S a lv = S[j] := by
  rw [nxt_to haj (by omega) (fun i hi h1 h2 => h4 i hi (by omega) h2), nxt_hit hj h3]
theorem spot_size (ah : Nat → Nat) (p : Nat) (b : Bool) (st : Nat) : (spotCells ah p b st).toArray.size = 15 := by simp [spotCells, links]
theorem spot_sizes (ah : Nat → Nat) (p : Nat) (b : Bool) (st : Nat) (ah' : Nat → Nat) (p' : Nat) (b' : Bool) (st' : Nat) : (spotCells ah p b st).toArray.size = (spotCells ah' p' b' st').toArray.size := by rw [spot_size, spot_size]
theorem spot_info (ah : Nat → Nat) (p : Nat) (b : Bool) (st : Nat) : (Tryd.prog.info? 74).map (·.size) = some (spotCells ah p b st).toArray.size := by rw [spot_size]; kernel_rfl
theorem spot_one (ah : Nat → Nat) (p : Nat) (b : Bool) (st : Nat) : (spotCells ah p b st).toArray.all (·.oneCell') = true := by
  simp [spotCells, links, List.range_succ]
  repeat' constructor
theorem heap_setRow (w : World) (g : Nat) (c : Array Value) (k : Nat) (h : k ≠ g) : (w.setRow g c).heap[k]? = w.heap[k]? := by
  simp only [World.setRow, Array.getElem?_modify]
  rw [if_neg (by omega)]
theorem below_setRow {B : Nat} {a w : World} (h : Below B a w) {g : Nat} (hg : B ≤ g) (c : Array Value) : Below B a (w.setRow g c) :=
  h.trans ⟨rfl, rfl, rfl, by simp [World.setRow], fun k hk => heap_setRow _ _ _ _ (by omega)⟩
theorem heap_setRow_at {w : World} {g : Nat} {old c : Array Value} {t : TypeId} {fr : Nat × Nat} (h : w.heap[g]? = some (.cells old t fr)) : (w.setRow g c).heap[g]? = some (.cells c t fr) := by
  simp only [World.setRow, Array.getElem?_modify]
  rw [if_pos trivial, h]
  rfl
theorem ret_spot {w W : World} {ah : Nat → Nat} {st : Nat} {s : Ls} {k : ByteArray} {th : Bool} {at_ : Nat} (h : SpotW w W ah at_ th st) (he : ∀ j, j < 12 → ah j = prv s.H s.S (pos s k) j) (ha : nxt s.H s.S (pos s k) 0 = at_) (hb : thereB s k at_ = th) (hst : st ≤ s.n + 12) {tmps : Array Value} (ht : tmps.getD 4 undef = .pointer (some ⟨w.heap.size, 0, none⟩)) :
    bodyPost Tryd.prog Tryd.f53 (SeekPost s k w) Exit.ret { tmps := tmps, defers := [] } (W.setRow w.heap.size (spotCells ah at_ th st).toArray) := by
  refine bodyPost_ret (v := .agg (spotCells ah at_ th st).toArray) ?_ rfl ⟨st, hst, ?_, below_setRow h.below (Nat.le_refl _) _⟩
  · refine results_cell_row rfl _ _ w.heap.size 74 _ (0, 0) _ ht (heap_setRow_at h.res) Tryd.underlying74 rfl (spot_info _ _ _ _)
  · rw [ha, hb]; unfold spotV spotCells; rw [links_congr he]
theorem spot_start (w : World) : SpotW w ((w.alloc (.cells #[.int .i32 0, .int .i32 0, .int .i32 0, .int .i32 0, .int .i32 0, .int .i32 0, .int .i32 0, .int .i32 0, .int .i32 0, .int .i32 0, .int .i32 0, .int .i32 0, .int .i32 0, .bool false, .int .i64 0] 74)).alloc (.cells #[.int .i32 0, .int .i32 0, .int .i32 0, .int .i32 0, .int .i32 0, .int .i32 0, .int .i32 0, .int .i32 0, .int .i32 0, .int .i32 0, .int .i32 0, .int .i32 0, .int .i32 0, .bool false, .int .i64 0] 74)) (fun _ => 0) 0 false 0 :=
  ⟨((Below.refl _ w).alloc (Nat.le_refl _) _).alloc (by simp) _, (Below.heap_alloc _ _ _ (by simp)).trans (heap_alloc_new w _), by
    have := heap_alloc_new (w.alloc (.cells #[.int .i32 0, .int .i32 0, .int .i32 0, .int .i32 0, .int .i32 0, .int .i32 0, .int .i32 0, .int .i32 0, .int .i32 0, .int .i32 0, .int .i32 0, .int .i32 0, .int .i32 0, .bool false, .int .i64 0] 74)) (.cells #[.int .i32 0, .int .i32 0, .int .i32 0, .int .i32 0, .int .i32 0, .int .i32 0, .int .i32 0, .int .i32 0, .int .i32 0, .int .i32 0, .int .i32 0, .int .i32 0, .int .i32 0, .bool false, .int .i64 0] 74)
    rw [World.size_alloc] at this
    exact this⟩
theorem nxt_top {s : Ls} (ok : Ok s) (a : Nat) : nxt s.H s.S a 12 = 0 := by
  rcases nxt_cases s.H s.S 12 s.S.length a (by omega) with ⟨g, _⟩ | ⟨j, hj, _, _, g3, _⟩
  · exact g
  · have := ok.high _ (List.getElem_mem hj); omega
set_option maxRecDepth 100000 in
set_option maxHeartbeats 4000000 in
theorem seek_any {w : World} {l : Nat} {v : Value} {s : Ls} {bytes steps : Int} (h : SkAt w l v s bytes steps) (k : ByteArray) :
    Calls Tryd.prog 53 #[.pointer (some ⟨l, 0, none⟩), .string k] w (SeekPost s k w) := by
  have HH := Lib.hid h
  clear h
  go_enter Tryd.func53, Tryd.ntmps53
  go_wp2
  refine wp_scope_jumps 0 (SkJ l s k w) (fun a' _ => skMu s a') rfl ?_ ?_
  · have HW0 := Lib.hid (spot_start w)
    go_wp2
    go_step3
    generalize (w.alloc (.cells #[.int .i32 0, .int .i32 0, .int .i32 0, .int .i32 0, .int .i32 0, .int .i32 0, .int .i32 0, .int .i32 0, .int .i32 0, .int .i32 0, .int .i32 0, .int .i32 0, .int .i32 0, .bool false, .int .i64 0] 74)).alloc (.cells #[.int .i32 0, .int .i32 0, .int .i32 0, .int .i32 0, .int .i32 0, .int .i32 0, .int .i32 0, .int .i32 0, .int .i32 0, .int .i32 0, .int .i32 0, .int .i32 0, .int .i32 0, .bool false, .int .i64 0] 74) = w1 at *
    have hplen := HH.out.ok.len
    have hposl := pos_le' s k
    have hppos : 0 ≤ pos s k := Nat.zero_le _
    have h1 := HH.out.below HW0.out.below
    have hI : SeekI s k 0 11 (fun _ => 0) 0 := ⟨by decide, Nat.zero_le _, .inl rfl, fun j h1 h2 => by omega, by omega⟩
    have hlv : 11 < 12 := by decide
    obtain ⟨b, o, hN, hb, hL⟩ := next_any h1 0 (Nat.zero_le _)
    have hlk := HH.out.ok.link 0 11 (Nat.zero_le _) (by decide) (.inl rfl)
    rw [atp_zero] at hlk
    obtain ⟨hl1, hf1⟩ := hL 11 (by decide)
    have HN : Hid (Calls Tryd.prog 54 #[.pointer (some ⟨l, 0, none⟩), .int .i32 0] w1 fun e w' => e = .returned (.pointer (some ⟨b, o, none⟩)) ∧ w1 = w') := hN
    clear hN hL hf1
    obtain ⟨d1, d2, d3⟩ := HW0.out.cells
    have e1 := HW0.out.free 11
    have e2 := HW0.out.free 12
    have e3 := HW0.out.free 13
    have e4 := HW0.out.free 14
    have c0 := HW0.out.link (j := 11) (by decide)
    have HI := Lib.hid (And.intro hI (And.intro HW0.out h1))
    have htop := nxt_top HH.out.ok (pos s k)
    clear h1 hI
    rw [hlk] at hl1
    rcases nxt_cases s.H s.S 11 s.S.length 0 (by omega) with ⟨g1, g2⟩ | ⟨j, hj, g1, g2, g3, g4⟩
    · rw [g1] at hl1
      obtain ⟨z1, z2⟩ := nxt_none_up (a := pos s k) hppos g2
      have G2 := Lib.hid (fun i (h : i < s.S.length) (hi : 0 ≤ i) (_ : i < pos s k) => g2 i h hi)
      have HW : Hid (SpotW w w1 (fun _ => 0) (nxt s.H s.S (pos s k) (10 + 1)) (thereB s k (nxt s.H s.S (pos s k) (10 + 1))) 0) := by
        show SpotW w w1 (fun _ => 0) (nxt s.H s.S (pos s k) (10 + 1)) (thereB s k (nxt s.H s.S (pos s k) (10 + 1))) 0
        rw [z1]; exact HW0.out
      clear hlk g1 g2 z1 z2 htop
      go_wp2_with (first | (go_at_call 54; (with_reducible refine (HN.out).mono ?_); rintro e w2 ⟨rfl, rfl⟩))
      go_step3
      exact ⟨rfl, skJ_mk rfl (by omega) (down_I HI.out.1 (by decide) (by omega) G2.out) (HW.out.ahead hlv (atp s.S 0)) _ _ _ _ _ _ _ _ _ _ _ _ _ _ _ _ _ _ _ _ _ _ _ _ _ _ _ _ _ _ _ _ _ _ _ _ _ _ _ _ _ _ _ _ _ _⟩
    · obtain ⟨hq1, hq2⟩ := HH.out.ok.mem s.S[j] (List.getElem_mem hj)
      have hfew := HH.out.few
      rw [g2] at hl1
      clear hlk g2
      have hq0 : ((s.S[j] : Int) != 0) = true := by simp; omega
      obtain ⟨g, cap, hv, hgl, hcell⟩ := HI.out.2.2.tower hq1 hq2
      have hc0 : Hid (w1.cell? ⟨l, 0, none⟩ = some (.slice (some ⟨g, 0, none⟩) s.n cap)) := by
        show w1.cell? ⟨l, 0, none⟩ = some (.slice (some ⟨g, 0, none⟩) s.n cap)
        rw [HI.out.2.2.cell0, hv]
      have hlN' : l < w.heap.size := HH.out.lt l (by simp [feet])
      have hlN : (⟨l, 0, none⟩ : Addr).block ≠ (⟨w.heap.size + 1, 14, none⟩ : Addr).block := by show l ≠ w.heap.size + 1; omega
      have hgN : g < w.heap.size := HH.out.lt g (by simp [feet, hv, Value.ownBlock])
      have hkey := (hcell 0 _ rfl).1
      rw [Nat.add_zero] at hkey
      clear hcell hv
      by_cases hjp : j < pos s k
      · have HC : Hid (∀ W, Calls Tryd.prog 26 #[.string (s.K s.S[j]), .string k] W fun e w' => e = .returned (.int .i64 (-1)) ∧ W = w') := fun W => by
          have := cmp_any (s.K s.S[j]) k W
          rwa [show cmpB (s.K s.S[j]) k = -1 from if_pos (below_pos s k j hj hjp)] at this
        have HA := Lib.hid (And.intro (adv_I HI.out.1 hj g1 hjp g3) (atp_succ hj))
        have HW : Hid (SpotW w (w1.setCell ⟨w.heap.size + 1, 14, none⟩ (.int .i64 1)) (fun _ => 0) (nxt s.H s.S (pos s k) (11 + 1)) (thereB s k (nxt s.H s.S (pos s k) (11 + 1))) (0 + 1)) := by
          show SpotW w (w1.setCell ⟨w.heap.size + 1, 14, none⟩ (.int .i64 1)) (fun _ => 0) (nxt s.H s.S (pos s k) 12) (thereB s k (nxt s.H s.S (pos s k) 12)) (0 + 1)
          rw [htop]; exact HW0.out.step (y := 1) (by omega)
        clear g3 g4 htop
        generalize s.S[j] = q at *
        go_wp2_with (first
          | (go_at_call 54; (with_reducible refine (HN.out).mono ?_); rintro e w2 ⟨rfl, rfl⟩)
          | (go_at_call 39; (with_reducible refine (tower_any (cell_other _ hlN hc0.out) hq1 hq2 hfew).mono ?_); rintro e w3 ⟨rfl, rfl⟩)
          | (go_at_call 26; (with_reducible refine (HC.out _).mono ?_); rintro e w4 ⟨rfl, rfl⟩))
        go_step3
        exact ⟨rfl, skJ_mk (by rw [HA.out.2]) rfl HA.out.1 HW.out _ _ _ _ _ _ _ _ _ _ _ _ _ _ _ _ _ _ _ _ _ _ _ _ _ _ _ _ _ _ _ _ _ _ _ _ _ _ _ _ _ _ _ _ _ _⟩
      · have hpj : pos s k ≤ j := by omega
        have G2 := Lib.hid (fun i (h : i < s.S.length) (hi : 0 ≤ i) (h2 : i < pos s k) => g4 i h hi (by omega))
        have z1 := nxt_from hppos hposl hj hpj g3 g4
        have habove := above_pos HH.out.ok.sorted k j hj hpj
        clear htop
        by_cases hke : s.K s.S[j] = k
        · have HC : Hid (∀ W, Calls Tryd.prog 26 #[.string (s.K s.S[j]), .string k] W fun e w' => e = .returned (.int .i64 0) ∧ W = w') := fun W => by
            have := cmp_any (s.K s.S[j]) k W
            rwa [show cmpB (s.K s.S[j]) k = 0 by unfold cmpB; rw [if_neg (by rw [habove]; decide), if_pos hke]] at this
          have hth : thereB s k s.S[j] = true := by unfold thereB; simp [hke]; omega
          have HW : Hid (SpotW w (((w1.setCell ⟨w.heap.size + 1, 14, none⟩ (.int .i64 1)).setCell ⟨w.heap.size + 1, 12, none⟩ (.int .i32 (s.S[j] : Nat))).setCell ⟨w.heap.size + 1, 13, none⟩ (.bool true)) (fun _ => 0) (nxt s.H s.S (pos s k) (10 + 1)) (thereB s k (nxt s.H s.S (pos s k) (10 + 1))) (0 + 1)) := by
            have := ((HW0.out.step (y := 1) (by omega)).at_ s.S[j]).there true
            show SpotW w _ (fun _ => 0) (nxt s.H s.S (pos s k) 11) (thereB s k (nxt s.H s.S (pos s k) 11)) (0 + 1)
            rw [z1, hth]; exact this
          clear z1 g3 g4 hth hke habove
          generalize s.S[j] = q at *
          go_wp2_with (first
          | (go_at_call 54; (with_reducible refine (HN.out).mono ?_); rintro e w2 ⟨rfl, rfl⟩)
          | (go_at_call 39; (with_reducible refine (tower_any (cell_other _ hlN hc0.out) hq1 hq2 hfew).mono ?_); rintro e w3 ⟨rfl, rfl⟩)
          | (go_at_call 26; (with_reducible refine (HC.out _).mono ?_); rintro e w4 ⟨rfl, rfl⟩))
          go_step3
          exact ⟨rfl, skJ_mk rfl (by omega) (down_I HI.out.1 (by decide) (by omega) G2.out) (HW.out.ahead hlv (atp s.S 0)) _ _ _ _ _ _ _ _ _ _ _ _ _ _ _ _ _ _ _ _ _ _ _ _ _ _ _ _ _ _ _ _ _ _ _ _ _ _ _ _ _ _ _ _ _ _⟩
        · have HC : Hid (∀ W, Calls Tryd.prog 26 #[.string (s.K s.S[j]), .string k] W fun e w' => e = .returned (.int .i64 1) ∧ W = w') := fun W => by
            have := cmp_any (s.K s.S[j]) k W
            rwa [show cmpB (s.K s.S[j]) k = 1 by unfold cmpB; rw [if_neg (by rw [habove]; decide), if_neg hke]] at this
          have hth : thereB s k s.S[j] = false := by unfold thereB; simp [hke]; done
          have HW : Hid (SpotW w (((w1.setCell ⟨w.heap.size + 1, 14, none⟩ (.int .i64 1)).setCell ⟨w.heap.size + 1, 12, none⟩ (.int .i32 (s.S[j] : Nat))).setCell ⟨w.heap.size + 1, 13, none⟩ (.bool false)) (fun _ => 0) (nxt s.H s.S (pos s k) (10 + 1)) (thereB s k (nxt s.H s.S (pos s k) (10 + 1))) (0 + 1)) := by
            have := ((HW0.out.step (y := 1) (by omega)).at_ s.S[j]).there false
            show SpotW w _ (fun _ => 0) (nxt s.H s.S (pos s k) 11) (thereB s k (nxt s.H s.S (pos s k) 11)) (0 + 1)
            rw [z1, hth]; exact this
          clear z1 g3 g4 hth hke habove
          generalize s.S[j] = q at *
          go_wp2_with (first
          | (go_at_call 54; (with_reducible refine (HN.out).mono ?_); rintro e w2 ⟨rfl, rfl⟩)
          | (go_at_call 39; (with_reducible refine (tower_any (cell_other _ hlN hc0.out) hq1 hq2 hfew).mono ?_); rintro e w3 ⟨rfl, rfl⟩)
          | (go_at_call 26; (with_reducible refine (HC.out _).mono ?_); rintro e w4 ⟨rfl, rfl⟩))
          go_step3
          exact ⟨rfl, skJ_mk rfl (by omega) (down_I HI.out.1 (by decide) (by omega) G2.out) (HW.out.ahead hlv (atp s.S 0)) _ _ _ _ _ _ _ _ _ _ _ _ _ _ _ _ _ _ _ _ _ _ _ _ _ _ _ _ _ _ _ _ _ _ _ _ _ _ _ _ _ _ _ _ _ _⟩
  · rintro a' w1 ⟨p, lv, ah, st, u8, u9, u10, u11, u12, u13, u14, u15, u16, u17, u18, u19, u20, u21, u22, u23, u24, u25, u26, u27, u28, u29, u30, u31, u32, u33, u34, u35, u36, u37, u38, u39, u40, u41, u42, u43, u44, u45, u46, u47, u48, u49, u50, u51, u52, u53, I, W, rfl⟩
    have hlv := I.hlv
    have hplen := HH.out.ok.len
    have hposl := pos_le' s k
    have hppos := I.hpos
    have hpn : p ≤ s.n := by omega
    have h1 := HH.out.below W.below
    obtain ⟨b, o, hN, hb, hL⟩ := next_any h1 (atp s.S p) (atp_le HH.out.ok hpn)
    have hlk := HH.out.ok.link p lv hpn hlv I.hon
    obtain ⟨hl1, hf1⟩ := hL lv hlv
    have HN := Lib.hid hN
    clear hN hL hf1
    obtain ⟨d1, d2, d3⟩ := W.cells
    have e1 := W.free lv
    have e2 := W.free 12
    have e3 := W.free 13
    have e4 := W.free 14
    have c0 := W.link hlv
    have HI := Lib.hid (And.intro I (And.intro W h1))
    have hst := I.hst
    clear I W h1
    rw [hlk] at hl1
    rcases nxt_cases s.H s.S lv s.S.length p (by omega) with ⟨g1, g2⟩ | ⟨j, hj, g1, g2, g3, g4⟩
    · rw [g1] at hl1
      obtain ⟨z1, z2⟩ := nxt_none_up (a := pos s k) hppos g2
      have G2 := Lib.hid (fun i (h : i < s.S.length) (hi : p ≤ i) (_ : i < pos s k) => g2 i h hi)
      clear hlk g1 g2
      rcases Nat.eq_zero_or_pos lv with rfl | hpos
      · rw [Nat.add_zero] at hl1
        have HS : Hid (nxt s.H s.S (pos s k) 0 = nxt s.H s.S (pos s k) (0 + 1)) := z1.trans z2.symm
        clear z1 z2
        generalize nxt s.H s.S (pos s k) (0 + 1) = sat at *
        generalize hth : thereB s k sat = th at *
        have HB := Lib.hid hth
        clear hth
        have HE := Lib.hid (HI.out.2.1.ahead hlv (atp s.S p))
        go_wp2_with (first
          | (go_at_call 54; (with_reducible refine (HN.out).mono ?_); rintro e w2 ⟨rfl, rfl⟩)
          | (with_reducible refine wpList_load_row (o := ⟨some 53, .load 74 (.tmp 5), _, _, _, _⟩) ?_ 74 (.tmp 5) ?_ (w.heap.size + 1) ?_ 74 _ (0, 0) _ HE.out.spt Tryd.underlying74 ?_ (spot_info _ _ _ _) ?_
             · rfl
             · rfl
             · rfl
             · rfl)
          | (with_reducible refine wpList_store_row (o := ⟨none, .store 74 (.tmp 4) (.tmp 53), _, _, _, _⟩) ?_ 74 (.tmp 4) (.tmp 53) ?_ w.heap.size (spotCells (upd ah 0 (atp s.S p)) sat th (st)).toArray ?_ ?_ 74 _ HE.out.res (spot_info _ _ _ _) (spot_sizes _ _ _ _ _ _ _ _) (spot_one _ _ _ _) ?_
             · rfl
             · rfl
             · rfl
             · rfl))
        exact ret_spot HE.out (last_ah HI.out.1 G2.out) HS.out HB.out (by omega) (by rfl)
      · have HS : Hid (nxt s.H s.S (pos s k) (lv - 1 + 1) = nxt s.H s.S (pos s k) (lv + 1)) := by
          show nxt s.H s.S (pos s k) (lv - 1 + 1) = nxt s.H s.S (pos s k) (lv + 1)
          rw [show lv - 1 + 1 = lv by omega, z1, z2]
        clear z1 z2
        generalize nxt s.H s.S (pos s k) (lv + 1) = sat at *
        have HW : Hid (SpotW w w1 ah (nxt s.H s.S (pos s k) (lv - 1 + 1)) (thereB s k (nxt s.H s.S (pos s k) (lv - 1 + 1))) st) := by
          show SpotW w w1 ah (nxt s.H s.S (pos s k) (lv - 1 + 1)) (thereB s k (nxt s.H s.S (pos s k) (lv - 1 + 1))) st
          rw [HS.out]; exact HI.out.2.1
        generalize thereB s k sat = th at *
        go_wp2_with (first | (go_at_call 54; (with_reducible refine (HN.out).mono ?_); rintro e w2 ⟨rfl, rfl⟩))
        go_step3
        exact ⟨rfl, skJ_mk rfl (by omega) (down_I HI.out.1 hpos (by omega) G2.out) (HW.out.ahead hlv _) _ _ _ _ _ _ _ _ _ _ _ _ _ _ _ _ _ _ _ _ _ _ _ _ _ _ _ _ _ _ _ _ _ _ _ _ _ _ _ _ _ _ _ _ _ _, mu_down hpos⟩
    · obtain ⟨hq1, hq2⟩ := HH.out.ok.mem s.S[j] (List.getElem_mem hj)
      have hfew := HH.out.few
      rw [g2] at hl1
      clear hlk g2
      have hq0 : ((s.S[j] : Int) != 0) = true := by simp; omega
      obtain ⟨g, cap, hv, hgl, hcell⟩ := HI.out.2.2.tower hq1 hq2
      have hc0 : Hid (w1.cell? ⟨l, 0, none⟩ = some (.slice (some ⟨g, 0, none⟩) s.n cap)) := by
        show w1.cell? ⟨l, 0, none⟩ = some (.slice (some ⟨g, 0, none⟩) s.n cap)
        rw [HI.out.2.2.cell0, hv]
      have hlN' : l < w.heap.size := HH.out.lt l (by simp [feet])
      have hlN : (⟨l, 0, none⟩ : Addr).block ≠ (⟨w.heap.size + 1, 14, none⟩ : Addr).block := by show l ≠ w.heap.size + 1; omega
      have hgN : g < w.heap.size := HH.out.lt g (by simp [feet, hv, Value.ownBlock])
      have hkey := (hcell 0 _ rfl).1
      rw [Nat.add_zero] at hkey
      clear hcell hv
      by_cases hjp : j < pos s k
      · -- on along the level
        have HC : Hid (∀ W, Calls Tryd.prog 26 #[.string (s.K s.S[j]), .string k] W fun e w' => e = .returned (.int .i64 (-1)) ∧ W = w') := fun W => by
          have := cmp_any (s.K s.S[j]) k W
          rwa [show cmpB (s.K s.S[j]) k = -1 from if_pos (below_pos s k j hj hjp)] at this
        have hqs : ((s.S[j] : Int) != (nxt s.H s.S (pos s k) (lv + 1) : Nat)) = true := by
          have : s.S[j] ≠ nxt s.H s.S (pos s k) (lv + 1) := by
            rcases nxt_cases s.H s.S (lv + 1) s.S.length (pos s k) (by omega) with ⟨z, _⟩ | ⟨i, hi, i1, i2, _⟩
            · rw [z]; omega
            · rw [i2]; intro e; have := (List.getElem_inj HH.out.ok.nodup).1 e; omega
          simp; omega
        have HA := Lib.hid (And.intro (adv_I HI.out.1 hj g1 hjp g3) (And.intro (mu_adv (lv := lv) HH.out.ok hj g1) (atp_succ hj)))
        have HW := Lib.hid (HI.out.2.1.step (y := (st : Int) + 1) (by omega))
        clear HI g3 g4
        generalize thereB s k (nxt s.H s.S (pos s k) (lv + 1)) = th at d2
        generalize nxt s.H s.S (pos s k) (lv + 1) = sat at d1 hqs
        generalize s.S[j] = q at *
        go_wp2_with (first
          | (go_at_call 54; (with_reducible refine (HN.out).mono ?_); rintro e w2 ⟨rfl, rfl⟩)
          | (go_at_call 39; (with_reducible refine (tower_any (cell_other _ hlN hc0.out) hq1 hq2 hfew).mono ?_); rintro e w3 ⟨rfl, rfl⟩)
          | (go_at_call 26; (with_reducible refine (HC.out _).mono ?_); rintro e w4 ⟨rfl, rfl⟩))
        go_step3
        exact ⟨rfl, skJ_mk (by rw [HA.out.2.2]) rfl HA.out.1 HW.out _ _ _ _ _ _ _ _ _ _ _ _ _ _ _ _ _ _ _ _ _ _ _ _ _ _ _ _ _ _ _ _ _ _ _ _ _ _ _ _ _ _ _ _ _ _, HA.out.2.1⟩
      · have hpj : pos s k ≤ j := by omega
        have G2 := Lib.hid (fun i (h : i < s.S.length) (hi : p ≤ i) (h2 : i < pos s k) => g4 i h hi (by omega))
        have z1 := nxt_from hppos hposl hj hpj g3 g4
        by_cases hqs0 : s.S[j] = nxt s.H s.S (pos s k) (lv + 1)
        · rw [← hqs0] at d1 d2
          rcases Nat.eq_zero_or_pos lv with rfl | hpos
          · rw [Nat.add_zero] at hl1
            have HS := Lib.hid z1
            have HI2 : Hid (SpotW w w1 ah s.S[j] (thereB s k s.S[j]) st) := by
              have := HI.out.2.1
              rw [← hqs0] at this; exact this
            clear z1 hqs0 g3 g4 hc0 hkey hlN
            generalize s.S[j] = q at *
            generalize hth : thereB s k q = th at *
            have HB := Lib.hid hth
            clear hth
            have HE := Lib.hid (HI2.out.ahead hlv (atp s.S p))
            go_wp2_with (first
          | (go_at_call 54; (with_reducible refine (HN.out).mono ?_); rintro e w2 ⟨rfl, rfl⟩)
          | (with_reducible refine wpList_load_row (o := ⟨some 53, .load 74 (.tmp 5), _, _, _, _⟩) ?_ 74 (.tmp 5) ?_ (w.heap.size + 1) ?_ 74 _ (0, 0) _ HE.out.spt Tryd.underlying74 ?_ (spot_info _ _ _ _) ?_
             · rfl
             · rfl
             · rfl
             · rfl)
          | (with_reducible refine wpList_store_row (o := ⟨none, .store 74 (.tmp 4) (.tmp 53), _, _, _, _⟩) ?_ 74 (.tmp 4) (.tmp 53) ?_ w.heap.size (spotCells (upd ah 0 (atp s.S p)) q th (st)).toArray ?_ ?_ 74 _ HE.out.res (spot_info _ _ _ _) (spot_sizes _ _ _ _ _ _ _ _) (spot_one _ _ _ _) ?_
             · rfl
             · rfl
             · rfl
             · rfl))
            exact ret_spot HE.out (last_ah HI.out.1 G2.out) HS.out HB.out (by omega) (by rfl)
          · have HW : Hid (SpotW w w1 ah (nxt s.H s.S (pos s k) (lv - 1 + 1)) (thereB s k (nxt s.H s.S (pos s k) (lv - 1 + 1))) st) := by
              have := HI.out.2.1
              rw [← hqs0, ← z1] at this
              rw [show lv - 1 + 1 = lv by omega]; exact this
            clear z1 hqs0 g3 g4 hc0 hkey hlN
            generalize s.S[j] = q at *
            generalize thereB s k q = th at *
            go_wp2_with (first | (go_at_call 54; (with_reducible refine (HN.out).mono ?_); rintro e w2 ⟨rfl, rfl⟩))
            go_step3
            exact ⟨rfl, skJ_mk rfl (by omega) (down_I HI.out.1 hpos (by omega) G2.out) (HW.out.ahead hlv _) _ _ _ _ _ _ _ _ _ _ _ _ _ _ _ _ _ _ _ _ _ _ _ _ _ _ _ _ _ _ _ _ _ _ _ _ _ _ _ _ _ _ _ _ _ _, mu_down hpos⟩
        · have hqs : ((s.S[j] : Int) != (nxt s.H s.S (pos s k) (lv + 1) : Nat)) = true := by simp; omega
          have habove := above_pos HH.out.ok.sorted k j hj hpj
          by_cases hke : s.K s.S[j] = k
          · have HC : Hid (∀ W, Calls Tryd.prog 26 #[.string (s.K s.S[j]), .string k] W fun e w' => e = .returned (.int .i64 0) ∧ W = w') := fun W => by
              have := cmp_any (s.K s.S[j]) k W
              rwa [show cmpB (s.K s.S[j]) k = 0 by unfold cmpB; rw [if_neg (by rw [habove]; decide), if_pos hke]] at this
            have hth : thereB s k s.S[j] = true := by unfold thereB; simp [hke]; omega
            rcases Nat.eq_zero_or_pos lv with rfl | hpos
            · rw [Nat.add_zero] at hl1
              have HS := Lib.hid z1
              have HB := Lib.hid hth
              generalize thereB s k (nxt s.H s.S (pos s k) (0 + 1)) = th at *
              generalize nxt s.H s.S (pos s k) (0 + 1) = sat at *
              clear z1 hqs0 g3 g4 hth hke habove
              have HE := Lib.hid ((((HI.out.2.1.step (y := (st : Int) + 1) (by omega)).at_ s.S[j]).there true).ahead hlv (atp s.S p))
              generalize s.S[j] = q at *
              go_wp2_with (first
            | (go_at_call 54; (with_reducible refine (HN.out).mono ?_); rintro e w2 ⟨rfl, rfl⟩)
            | (go_at_call 39; (with_reducible refine (tower_any (cell_other _ hlN hc0.out) hq1 hq2 hfew).mono ?_); rintro e w3 ⟨rfl, rfl⟩)
            | (go_at_call 26; (with_reducible refine (HC.out _).mono ?_); rintro e w4 ⟨rfl, rfl⟩)
            | (with_reducible refine wpList_load_row (o := ⟨some 53, .load 74 (.tmp 5), _, _, _, _⟩) ?_ 74 (.tmp 5) ?_ (w.heap.size + 1) ?_ 74 _ (0, 0) _ HE.out.spt Tryd.underlying74 ?_ (spot_info _ _ _ _) ?_
               · rfl
               · rfl
               · rfl
               · rfl)
            | (with_reducible refine wpList_store_row (o := ⟨none, .store 74 (.tmp 4) (.tmp 53), _, _, _, _⟩) ?_ 74 (.tmp 4) (.tmp 53) ?_ w.heap.size (spotCells (upd ah 0 (atp s.S p)) q true (st + 1)).toArray ?_ ?_ 74 _ HE.out.res (spot_info _ _ _ _) (spot_sizes _ _ _ _ _ _ _ _) (spot_one _ _ _ _) ?_
               · rfl
               · rfl
               · rfl
               · rfl))
              exact ret_spot HE.out (last_ah HI.out.1 G2.out) HS.out HB.out (by omega) (by rfl)
            · have HW : Hid (SpotW w (((w1.setCell ⟨w.heap.size + 1, 14, none⟩ (.int .i64 ((st : Int) + 1))).setCell ⟨w.heap.size + 1, 12, none⟩ (.int .i32 (s.S[j] : Nat))).setCell ⟨w.heap.size + 1, 13, none⟩ (.bool true)) ah (nxt s.H s.S (pos s k) (lv - 1 + 1)) (thereB s k (nxt s.H s.S (pos s k) (lv - 1 + 1))) (st + 1)) := by
                have := ((HI.out.2.1.step (y := (st : Int) + 1) (by omega)).at_ s.S[j]).there true
                rw [show lv - 1 + 1 = lv by omega, z1, hth]; exact this
              generalize thereB s k (nxt s.H s.S (pos s k) (lv + 1)) = th at *
              generalize nxt s.H s.S (pos s k) (lv + 1) = sat at *
              clear z1 hqs0 g3 g4 hth hke habove
              generalize s.S[j] = q at *
              go_wp2_with (first
            | (go_at_call 54; (with_reducible refine (HN.out).mono ?_); rintro e w2 ⟨rfl, rfl⟩)
            | (go_at_call 39; (with_reducible refine (tower_any (cell_other _ hlN hc0.out) hq1 hq2 hfew).mono ?_); rintro e w3 ⟨rfl, rfl⟩)
            | (go_at_call 26; (with_reducible refine (HC.out _).mono ?_); rintro e w4 ⟨rfl, rfl⟩))
              go_step3
              exact ⟨rfl, skJ_mk rfl (by omega) (down_I HI.out.1 hpos (by omega) G2.out) (HW.out.ahead hlv _) _ _ _ _ _ _ _ _ _ _ _ _ _ _ _ _ _ _ _ _ _ _ _ _ _ _ _ _ _ _ _ _ _ _ _ _ _ _ _ _ _ _ _ _ _ _, mu_down hpos⟩
          · have HC : Hid (∀ W, Calls Tryd.prog 26 #[.string (s.K s.S[j]), .string k] W fun e w' => e = .returned (.int .i64 1) ∧ W = w') := fun W => by
              have := cmp_any (s.K s.S[j]) k W
              rwa [show cmpB (s.K s.S[j]) k = 1 by unfold cmpB; rw [if_neg (by rw [habove]; decide), if_neg hke]] at this
            have hth : thereB s k s.S[j] = false := by unfold thereB; simp [hke]; done
            rcases Nat.eq_zero_or_pos lv with rfl | hpos
            · rw [Nat.add_zero] at hl1
              have HS := Lib.hid z1
              have HB := Lib.hid hth
              generalize thereB s k (nxt s.H s.S (pos s k) (0 + 1)) = th at *
              generalize nxt s.H s.S (pos s k) (0 + 1) = sat at *
              clear z1 hqs0 g3 g4 hth hke habove
              have HE := Lib.hid ((((HI.out.2.1.step (y := (st : Int) + 1) (by omega)).at_ s.S[j]).there false).ahead hlv (atp s.S p))
              generalize s.S[j] = q at *
              go_wp2_with (first
            | (go_at_call 54; (with_reducible refine (HN.out).mono ?_); rintro e w2 ⟨rfl, rfl⟩)
            | (go_at_call 39; (with_reducible refine (tower_any (cell_other _ hlN hc0.out) hq1 hq2 hfew).mono ?_); rintro e w3 ⟨rfl, rfl⟩)
            | (go_at_call 26; (with_reducible refine (HC.out _).mono ?_); rintro e w4 ⟨rfl, rfl⟩)
            | (with_reducible refine wpList_load_row (o := ⟨some 53, .load 74 (.tmp 5), _, _, _, _⟩) ?_ 74 (.tmp 5) ?_ (w.heap.size + 1) ?_ 74 _ (0, 0) _ HE.out.spt Tryd.underlying74 ?_ (spot_info _ _ _ _) ?_
               · rfl
               · rfl
               · rfl
               · rfl)
            | (with_reducible refine wpList_store_row (o := ⟨none, .store 74 (.tmp 4) (.tmp 53), _, _, _, _⟩) ?_ 74 (.tmp 4) (.tmp 53) ?_ w.heap.size (spotCells (upd ah 0 (atp s.S p)) q false (st + 1)).toArray ?_ ?_ 74 _ HE.out.res (spot_info _ _ _ _) (spot_sizes _ _ _ _ _ _ _ _) (spot_one _ _ _ _) ?_
               · rfl
               · rfl
               · rfl
               · rfl))
              exact ret_spot HE.out (last_ah HI.out.1 G2.out) HS.out HB.out (by omega) (by rfl)
            · have HW : Hid (SpotW w (((w1.setCell ⟨w.heap.size + 1, 14, none⟩ (.int .i64 ((st : Int) + 1))).setCell ⟨w.heap.size + 1, 12, none⟩ (.int .i32 (s.S[j] : Nat))).setCell ⟨w.heap.size + 1, 13, none⟩ (.bool false)) ah (nxt s.H s.S (pos s k) (lv - 1 + 1)) (thereB s k (nxt s.H s.S (pos s k) (lv - 1 + 1))) (st + 1)) := by
                have := ((HI.out.2.1.step (y := (st : Int) + 1) (by omega)).at_ s.S[j]).there false
                rw [show lv - 1 + 1 = lv by omega, z1, hth]; exact this
              generalize thereB s k (nxt s.H s.S (pos s k) (lv + 1)) = th at *
              generalize nxt s.H s.S (pos s k) (lv + 1) = sat at *
              clear z1 hqs0 g3 g4 hth hke habove
              generalize s.S[j] = q at *
              go_wp2_with (first
            | (go_at_call 54; (with_reducible refine (HN.out).mono ?_); rintro e w2 ⟨rfl, rfl⟩)
            | (go_at_call 39; (with_reducible refine (tower_any (cell_other _ hlN hc0.out) hq1 hq2 hfew).mono ?_); rintro e w3 ⟨rfl, rfl⟩)
            | (go_at_call 26; (with_reducible refine (HC.out _).mono ?_); rintro e w4 ⟨rfl, rfl⟩))
              go_step3
              exact ⟨rfl, skJ_mk rfl (by omega) (down_I HI.out.1 hpos (by omega) G2.out) (HW.out.ahead hlv _) _ _ _ _ _ _ _ _ _ _ _ _ _ _ _ _ _ _ _ _ _ _ _ _ _ _ _ _ _ _ _ _ _ _ _ _ _ _ _ _ _ _ _ _ _ _, mu_down hpos⟩
end Go.Proofs.YtadejeoiffaimaaDoor.Sk
