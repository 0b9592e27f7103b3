/-
  A skip list by its pairs: what Put, Get and the keys from one on come to. Conditions: as each theorem states.
-/
import Derived.Test.YtadejeoiffaimaaDoorSkI
namespace Go.Proofs.YtadejeoiffaimaaDoor.Sk
open Go.RowKit Go.Shelf
open Go.Proofs.YtadejeoiffaimaaDoor.Rf

def Srt (P : List Pr) : Prop := P.Pairwise (fun x y => lt x.1 y.1 = true)
def putL (P : List Pr) (k v : ByteArray) : List Pr := P.filter (fun x => lt x.1 k) ++ (k, v) :: P.filter (fun x => lt k x.1)
def upL (P : List Pr) (k : ByteArray) : List Pr := P.filter (fun x => !lt x.1 k)
def hasL (P : List Pr) (k : ByteArray) : Bool := P.any (fun x => decide (x.1 = k))
def getL (P : List Pr) (k : ByteArray) : ByteArray := ((P.find? (fun x => decide (x.1 = k))).map (·.2)).getD ⟨#[]⟩
theorem pairs_srt {s : Ls} (ok : Ok s) : Srt (pairs s) := by
  unfold Srt pairs
  rw [List.pairwise_map]; exact ok.sorted
theorem filter_all {α : Type} {p : α → Bool} {l : List α} (h : ∀ x ∈ l, p x = true) : l.filter p = l := List.filter_eq_self.2 h
theorem filter_none {α : Type} {p : α → Bool} {l : List α} (h : ∀ x ∈ l, p x = false) : l.filter p = [] := List.filter_eq_nil_iff.2 (fun x hx => by rw [h x hx]; decide)
section
variable {s : Ls} (ok : Ok s) (k : ByteArray)
theorem lo_lt : ∀ x ∈ (pairs s).take (pos s k), lt x.1 k = true := fun x hx => by
  obtain ⟨i, hi, rfl⟩ := List.mem_iff_getElem.1 hx
  have hi' : i < pos s k := by simp at hi; omega
  have := pos_le' s k
  rw [List.getElem_take]
  simp only [pairs, List.getElem_map]
  exact below_pos s k i (by omega) hi'
include ok in
theorem hi_ge : ∀ x ∈ (pairs s).drop (pos s k), lt x.1 k = false := fun x hx => by
  obtain ⟨i, hi, rfl⟩ := List.mem_iff_getElem.1 hx
  rw [List.getElem_drop]
  have hi' : pos s k + i < s.S.length := by simp [pairs] at hi; omega
  simp only [pairs, List.getElem_map]
  exact above_pos ok.sorted k _ hi' (by omega)
include ok in
theorem take_is : (pairs s).take (pos s k) = (pairs s).filter (fun x => lt x.1 k) := by
  conv => rhs; rw [← List.take_append_drop (pos s k) (pairs s)]
  rw [List.filter_append, filter_all (lo_lt k), filter_none (hi_ge ok k), List.append_nil]
include ok in
theorem from_is : fromL s k = upL (pairs s) k := by
  unfold fromL upL
  conv => rhs; rw [← List.take_append_drop (pos s k) (pairs s)]
  rw [List.filter_append, filter_none (fun x hx => by rw [lo_lt k x hx]; rfl), filter_all (fun x hx => by rw [hi_ge ok k x hx]; rfl), List.nil_append]
include ok in
theorem ins_is (h : there s k = false) (v : ByteArray) (hh : Nat) : pairs (ins s k v hh) = putL (pairs s) k v := by
  rw [pairs_ins ok, take_is ok k]
  unfold putL
  congr 2
  have hgt : ∀ x ∈ (pairs s).drop (pos s k), lt k x.1 = true := fun x hx => by
    have h1 := hi_ge ok k x hx
    cases e : lt k x.1 with
    | true => rfl
    | false =>
      have hxk := lt_tri h1 e
      obtain ⟨p, hp, rfl⟩ := List.mem_map.1 (List.mem_of_mem_drop hx)
      exact absurd hxk (there_no ok h p hp)
  conv => rhs; rw [← List.take_append_drop (pos s k) (pairs s)]
  rw [List.filter_append, filter_none (fun x hx => lt_anti (lo_lt k x hx)), filter_all hgt, List.nil_append]
include ok in
theorem put_is (h : there s k = true) (v : ByteArray) {p : Nat} (hp : ∃ hh : pos s k < s.S.length, s.S[pos s k] = p) : pairs (put s p v) = putL (pairs s) k v := by
  obtain ⟨hh, rfl⟩ := hp
  obtain ⟨_, _, hk⟩ := there_yes ok h
  rw [pairs_put ok v hh, take_is ok k, hk]
  unfold putL
  congr 2
  have hs := pairs_srt ok
  have hd := drop_pairs hh
  rw [hk] at hd
  have hgt : ∀ x ∈ (pairs s).drop (pos s k + 1), lt k x.1 = true := fun x hx => by
    have h1 : ((pairs s).drop (pos s k)).Pairwise (fun x y => lt x.1 y.1 = true) := hs.sublist (List.drop_sublist _ _)
    rw [hd, List.pairwise_cons] at h1
    exact h1.1 x hx
  conv => rhs; rw [← List.take_append_drop (pos s k) (pairs s)]
  rw [List.filter_append, filter_none (fun x hx => lt_anti (lo_lt k x hx)), hd, List.filter_cons, lt_irr, filter_all hgt, List.nil_append]; rfl
include ok in
theorem has_is : hasL (pairs s) k = there s k := by
  cases h : there s k with
  | false =>
    unfold hasL
    rw [List.any_eq_false]
    intro x hx
    obtain ⟨p, hp, rfl⟩ := List.mem_map.1 hx
    simpa using there_no ok h p hp
  | true =>
    obtain ⟨hh, _, hk⟩ := there_yes ok h
    unfold hasL
    rw [List.any_eq_true]
    exact ⟨_, List.mem_map.2 ⟨s.S[pos s k], List.getElem_mem hh, rfl⟩, by simpa using hk⟩
theorem find_none {α : Type} {f : α → Bool} {l : List α} (h : ∀ x ∈ l, f x = false) : l.find? f = none := List.find?_eq_none.2 (fun x hx => by rw [h x hx]; decide)
include ok in
theorem get_is_no (h : there s k = false) : getL (pairs s) k = ⟨#[]⟩ := by
  unfold getL
  rw [find_none (fun x hx => by
    obtain ⟨p, hp, rfl⟩ := List.mem_map.1 hx
    simpa using there_no ok h p hp)]; rfl
include ok in
theorem get_is_yes (h : there s k = true) {p : Nat} (hp : ∃ hh : pos s k < s.S.length, s.S[pos s k] = p) : getL (pairs s) k = s.V p := by
  obtain ⟨hh, rfl⟩ := hp
  obtain ⟨_, _, hk⟩ := there_yes ok h
  unfold getL
  have hd := drop_pairs hh
  rw [hk] at hd
  rw [← List.take_append_drop (pos s k) (pairs s), List.find?_append, find_none (fun x hx => by
    have := lo_lt k x hx
    apply decide_eq_false
    intro e; rw [e, lt_irr] at this; cases this), hd, List.find?_cons]
  simp
end
/-- A list with its pairs, wherever its towers lie. -/
def Lst (w : World) (l : Nat) (v : Value) (P : List Pr) (n : Nat) : Prop := ∃ s bytes st, SkAt w l v s bytes st ∧ pairs s = P ∧ s.n = n
theorem Lst.below {w w' : World} {l n : Nat} {v : Value} {P : List Pr} (h : Lst w l v P n) (hb : Below w.heap.size w w') : Lst w' l v P n := by
  obtain ⟨s, b, st, h1, h2, h3⟩ := h
  exact ⟨s, b, st, h1.below hb, h2, h3⟩
theorem Lst.lt {w : World} {l n : Nat} {v : Value} {P : List Pr} (h : Lst w l v P n) : ∀ k ∈ feet l v, k < w.heap.size := by
  obtain ⟨s, b, st, h1, _⟩ := h
  exact h1.lt
theorem Lst.kept {w w' : World} {l n : Nat} {v : Value} {P : List Pr} (h : Lst w l v P n) (hk : ∀ k ∈ feet l v, w'.heap[k]? = w.heap[k]?) : Lst w' l v P n := by
  obtain ⟨s, b, st, h1, h2, h3⟩ := h
  exact ⟨s, b, st, h1.kept hk, h2, h3⟩
def PutL (w : World) (l : Nat) (v : Value) (P : List Pr) (n : Nat) (e : Ending) (w' : World) : Prop :=
  e = .returned (.int .i64 0) ∧ ∃ v' n', Lst w' l v' P n' ∧ n' ≤ n + 1 ∧ Moves w (feet l v) w' (feet l v')
theorem putL_any {w : World} {l n : Nat} {v : Value} {P : List Pr} (h : Lst w l v P n) (k x : ByteArray) (hk : k.size ≤ 1099511627776) (hx : x.size ≤ 1099511627776) (height : Int) (hn : n < 65536) :
    Calls Tryd.prog 22 #[.pointer (some ⟨l, 0, none⟩), .string k, .string x, .int .i64 height] w (PutL w l v (putL P k x) n) := by
  obtain ⟨s, b, st, h1, rfl, rfl⟩ := h
  cases ht : there s k with
  | true =>
    obtain ⟨hh, _, _⟩ := there_yes h1.ok ht
    refine (put_hit h1 k x hx height ht ⟨hh, rfl⟩).mono ?_
    rintro e w' ⟨he, v', b', st', h2, h3⟩
    exact ⟨he, v', s.n, ⟨_, b', st', h2, put_is h1.ok k ht x ⟨hh, rfl⟩, rfl⟩, by omega, h3⟩
  | false =>
    refine (put_miss h1 k x hk hx height (hn := (min (max height 1) 12).toNat) (by omega) ht hn).mono ?_
    rintro e w' ⟨he, v', b', st', h2, h3⟩
    exact ⟨he, v', s.n + 1, ⟨_, b', st', h2, ins_is h1.ok k ht x _, rfl⟩, by omega, h3⟩
def GetL (w : World) (l : Nat) (v : Value) (P : List Pr) (n : Nat) (r : ByteArray) (ok : Bool) (e : Ending) (w' : World) : Prop :=
  e = .returned (.tuple #[.string r, .bool ok]) ∧ Lst w' l v P n ∧ Moves w (feet l v) w' (feet l v)
theorem lenL_any {w : World} {l n : Nat} {v : Value} {P : List Pr} (h : Lst w l v P n) : Calls Tryd.prog 30 #[.pointer (some ⟨l, 0, none⟩)] w fun e w' => e = .returned (.int .i64 (P.length : Nat)) ∧ w = w' := by
  obtain ⟨s, b, st, h1, rfl, rfl⟩ := h
  rw [pairs_len h1.ok]
  exact len_any h1
theorem bytesL_any {w : World} {l n : Nat} {v : Value} {P : List Pr} (h : Lst w l v P n) : Calls Tryd.prog 31 #[.pointer (some ⟨l, 0, none⟩)] w fun e w' => e = .returned (.int .i64 (total P : Nat)) ∧ w = w' := by
  obtain ⟨s, b, st, h1, rfl, rfl⟩ := h
  exact bytes_any h1
def noLs : Ls := ⟨0, fun _ => ⟨#[]⟩, fun _ => ⟨#[]⟩, fun _ => 0, fun _ _ => 0, []⟩
theorem noLs_ok : Ok noLs := ⟨rfl, (by intro p hp; cases hp), List.nodup_nil, List.Pairwise.nil, (by intro p hp; cases hp), (by
  intro p lv hp hlv _
  exact (nxt_end (Nat.zero_le _)).symm)⟩
theorem new_any (w : World) : Calls Tryd.prog 19 #[] w fun e w' => e = .returned (.pointer (some ⟨w.heap.size, 0, none⟩)) ∧ Lst w' w.heap.size (.slice none 0 0) [] 0 ∧ Below w.heap.size w w' := by
  go_enter Tryd.func19, Tryd.ntmps19
  go_wp2
  go_ret
  refine ⟨rfl, ⟨noLs, 0, 0, ⟨?_, ⟨rfl, .inl ⟨rfl, rfl⟩⟩, noLs_ok, by decide, by simp [Value.ownBlock], (by intro p hp; cases hp), rfl⟩, rfl, rfl⟩, (Below.refl _ w).alloc (Nat.le_refl _) _⟩
  exact heap_alloc_new w _
theorem from_any (w : World) (l : Nat) (k : ByteArray) :
    Calls Tryd.prog 41 #[.pointer (some ⟨l, 0, none⟩), .string k] w fun e w' => e = .returned (.func (.func 55) #[] #[.pointer (some ⟨w.heap.size, 0, none⟩), .pointer (some ⟨w.heap.size + 1, 0, none⟩)]) ∧ w' = (w.alloc (.cells #[.pointer (some ⟨l, 0, none⟩)] 44)).alloc (.cells #[.string k] 9) := by
  go_enter Tryd.func41, Tryd.ntmps41
  go_wp2
  go_ret
  exact ⟨rfl, rfl⟩
end Go.Proofs.YtadejeoiffaimaaDoor.Sk
