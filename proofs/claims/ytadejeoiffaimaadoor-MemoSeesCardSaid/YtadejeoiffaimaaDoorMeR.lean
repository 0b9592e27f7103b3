/-
  The document's own answers for rows of entries, walked. Conditions: as each theorem states.
-/
import Derived.Test.YtadejeoiffaimaaDoorMeQ
namespace Go.Proofs.YtadejeoiffaimaaDoor.Me
open Go.RowKit
open Vi

def fromE (q : List En) (k : ByteArray) : List En := q.filter (fun x => !Sk.lt x.key k)
def downE (q : List En) (k : ByteArray) : List En := (q.filter (fun x => decide (k = ⟨#[]⟩) || !Sk.lt k x.key)).reverse
def rgetE (q : List En) (k : ByteArray) (at_ : Nat) : Option En := q.find? (fun x => decide (x.key = k) && decide (x.seq ≤ at_))
theorem from_snoc {P : List En} {j : Nat} (h : j < P.length) (k : ByteArray) : fromE (P.take (j + 1)) k = fromE (P.take j) k ++ (if Sk.lt P[j].key k = true then [] else [P[j]]) := by
  unfold fromE
  rw [List.take_succ_eq_append_getElem h, List.filter_append]
  cases h2 : Sk.lt P[j].key k <;> simp [h2]
theorem down_step {P : List En} {j : Nat} (h : j < P.length) (k : ByteArray) : downE (P.drop j) k = downE (P.drop (j + 1)) k ++ (if (decide (k = ⟨#[]⟩) || !Sk.lt k P[j].key) = true then [P[j]] else []) := by
  unfold downE
  rw [List.drop_eq_getElem_cons h, List.filter_cons]
  split <;> simp
theorem bytes_snoc {P : List En} {j : Nat} (h : j < P.length) : bytesE (P.take (j + 1)) = bytesE (P.take j) + (P[j].key.size + P[j].val.size + 8) := by
  unfold bytesE
  rw [List.take_succ_eq_append_getElem h, List.map_append, List.sum_append]; simp
theorem from_len (q : List En) (k : ByteArray) : (fromE q k).length ≤ q.length := List.length_filter_le _ _
theorem find_at {f : En → Bool} : ∀ {l : List En} {j : Nat} (hj : j < l.length), (∀ i (hi : i < l.length), i < j → f l[i] = false) → f l[j] = true → l.find? f = some l[j]
  | x :: l, 0, _, _, h => by rw [List.find?_cons, show f x = true from h]; rfl
  | x :: l, j + 1, hj, hlo, h => by
    rw [List.find?_cons, show f x = false from hlo 0 (by simp) (by omega)]
    exact find_at (l := l) (j := j) (by simpa using hj) (fun i hi hij => hlo (i + 1) (by simpa using hi) (by omega)) h
theorem e_box {W : World} (e : En) (t : TypeId) : (W.alloc (.cells #[.string e.key, .int .u64 e.seq, .int .i64 e.kind, .string e.val] t)).heap[W.heap.size]? = some (.cells #[.string e.key, .int .u64 e.seq, .int .i64 e.kind, .string e.val] t (0, 0)) := heap_alloc_new W _
def OutE (w : World) (O : List En) (e : Ending) (w' : World) : Prop := ∃ v, e = .returned v ∧ w'.ownsRow w.heap.size 30 4 v O.length (eRow O) ∧ Below w.heap.size w w'
theorem ebelow_grown {w wr W' : World} {v : Value} {n : Nat} {xs : List Value} (hb : Below w.heap.size w wr) (h : wr.ownsRow w.heap.size 30 4 v n xs) (hg : wr.grownBy W' v.ownBlock) : Below w.heap.size w W' :=
  hb.trans ⟨hg.os, hg.tape, hg.output, hg.size, fun k hk => hg.block k (Nat.lt_of_lt_of_le hk hb.size) fun e => by have := (h.lt k e.symm).1; omega⟩
theorem ne_lists {a b : ByteArray} (h : ¬ a = b) : ¬ a.toList = b.toList ∧ (a.toList == b.toList) = false := by
  have h1 : ¬ a.toList = b.toList := fun e => h (data_inj (by rw [← toL, ← toL]; exact e))
  exact ⟨h1, by simpa using h1⟩
end Go.Proofs.YtadejeoiffaimaaDoor.Me
