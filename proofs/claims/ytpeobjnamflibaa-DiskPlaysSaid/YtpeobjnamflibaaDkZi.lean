/-
  Two disks beside one another: the program's and the document's. Conditions: as each theorem states.
-/
import Derived.Test.YtpeobjnamflibaaDkZf
import Derived.Test.YtpeobjnamflibaaDkZh
namespace Go.Proofs.Ytpeobjnamflibaa.Dk
open Go.RowKit Go.Maps

section
variable {w w2 : World} {d m q : Nat} {v v2 : Value} {L L2 : List Ent} {R R2 : List RFile} {room steps fuse fault room2 steps2 fuse2 fault2 : Int} {down down2 : Bool}
theorem disk_kept (h : DiskAt w d m L room steps fuse fault down) (hk : ∀ k ∈ feet d m L, w2.heap[k]? = w.heap[k]?) : DiskAt w2 d m L room steps fuse fault down := by
  obtain ⟨D, ho, hM⟩ := h.map
  exact ⟨(hk d (by simp [feet])).trans h.disk, ⟨D, own_kept ho (hk m (by simp [feet])), hM⟩, fun e he => (h.files e he).kept (fun k hk' => hk k (mem_feet.2 (Or.inr (Or.inr ⟨e, he, hk'⟩)))), h.names, h.short, h.apart, h.few, h.vol⟩
theorem ref_kept (h : RefAt w q v R room steps fuse fault down) (hk : ∀ k ∈ rfeet q v, w2.heap[k]? = w.heap[k]?) : RefAt w2 q v R room steps fuse fault down :=
  ⟨(hk q (by simp [rfeet])).trans h.ref, ownsRow_kept h.row (fun g hg => hk g (by simp [rfeet, hg])), h.few, h.apart, h.sure, h.vol⟩
/-- both, apart from one another -/
structure Pa (w : World) (d m : Nat) (L : List Ent) (q : Nat) (v : Value) (R : List RFile) (room steps fuse fault : Int) (down : Bool) (room2 steps2 fuse2 fault2 : Int) (down2 : Bool) : Prop where
  dk : DiskAt w d m L room steps fuse fault down
  rf : RefAt w q v R room2 steps2 fuse2 fault2 down2
  apart : ∀ k ∈ feet d m L, k ∉ rfeet q v
variable {r1 s1 u1 t1 : Int} {b1 : Bool}
/-- the program's disk has turned -/
theorem pa_disk (h : Pa w d m L q v R room steps fuse fault down room2 steps2 fuse2 fault2 down2) (h2 : DiskAt w2 d m L2 r1 s1 u1 t1 b1) (hm : Moves w (feet d m L) w2 (feet d m L2)) : Pa w2 d m L2 q v R r1 s1 u1 t1 b1 room2 steps2 fuse2 fault2 down2 :=
  ⟨h2, ref_kept h.rf (fun k hk => hm.only.block k (h.rf.lt k hk) (fun hf => h.apart k hf hk)), fun k hk hr => by
    rcases hm.fresh k hk with h1 | h1
    · exact h.apart k h1 hr
    · have := h.rf.lt k hr; omega⟩
/-- the document's disk has turned -/
theorem pa_ref (h : Pa w d m L q v R room steps fuse fault down room2 steps2 fuse2 fault2 down2) (h2 : RefAt w2 q v2 R2 r1 s1 u1 t1 b1) (hm : Moves w (rfeet q v) w2 (rfeet q v2)) : Pa w2 d m L q v2 R2 room steps fuse fault down r1 s1 u1 t1 b1 :=
  ⟨disk_kept h.dk (fun k hk => hm.only.block k (h.dk.lt k hk) (fun hf => h.apart k hk hf)), h2, fun k hk hr => by
    rcases hm.fresh k hr with h1 | h1
    · exact h.apart k hk h1
    · have := h.dk.lt k hk; omega⟩
theorem pa_below (h : Pa w d m L q v R room steps fuse fault down room2 steps2 fuse2 fault2 down2) (hb : Below w.heap.size w w2) : Pa w2 d m L q v R room steps fuse fault down room2 steps2 fuse2 fault2 down2 :=
  ⟨h.dk.below hb, h.rf.below hb, h.apart⟩
end
/-! the rows agree -/
section
variable {L A B : List Ent} {R : List RFile} {e : Ent} {f : RFile} {s : ByteArray}
theorem agree_mem (h : L.map ek = R.map rk) : (∃ e ∈ L, e.name = s.data.toList) ↔ ∃ f ∈ R, f.name = s := by
  have h1 : L.map Ent.name = R.map (fun f => f.name.data.toList) := by
    have := congrArg (List.map (fun t : Tri => t.1)) h
    rwa [List.map_map, List.map_map] at this
  constructor
  · rintro ⟨e, he, hn⟩
    have : s.data.toList ∈ R.map (fun f => f.name.data.toList) := by rw [← h1, ← hn]; exact List.mem_map.2 ⟨e, he, rfl⟩
    obtain ⟨f, hf, hfn⟩ := List.mem_map.1 this
    exact ⟨f, hf, toList_inj hfn⟩
  · rintro ⟨f, hf, rfl⟩
    have : f.name.data.toList ∈ L.map Ent.name := by rw [h1]; exact List.mem_map.2 ⟨f, hf, rfl⟩
    obtain ⟨e, he, hn⟩ := List.mem_map.1 this
    exact ⟨e, he, hn⟩
theorem agree_len (h : L.map ek = R.map rk) : L.length = R.length := by
  have := congrArg List.length h; simpa using this
theorem agree_used (h : L.map ek = R.map rk) : usedL L = usedR R := by
  have h1 := congrArg (fun l : List Tri => (l.map (fun t => t.2.1.length)).sum) h
  simp only [List.map_map] at h1
  exact h1
/-- where the file stands, in both -/
theorem agree_split (h : L.map ek = R.map rk) (hx : ∃ f ∈ R, f.name = s) :
    ∃ A e B X f Y, L = A ++ e :: B ∧ R = X ++ f :: Y ∧ A.map ek = X.map rk ∧ B.map ek = Y.map rk ∧ ek e = rk f ∧ f.name = s ∧ ∀ a ∈ X, a.name ≠ s := by
  obtain ⟨X, f, Y, rfl, hf, hX⟩ := first_split hx
  rw [List.map_append, List.map_cons] at h
  obtain ⟨A, T, rfl, hA, hT⟩ := List.map_eq_append_iff.1 h
  obtain ⟨e, B, rfl, he, hB⟩ := List.map_eq_cons_iff.1 hT
  exact ⟨A, e, B, X, f, Y, rfl, rfl, hA, hB, he, hf, hX⟩
/-- what a crash leaves agrees -/
theorem agree_crash {L' : List Ent} {R' : List RFile} {fates : List FateS} {ss : List (List UInt8)} (h : L.map ek = R.map rk) (hs : ss.Pairwise (fun a b => a ≤ b)) (hp : ss.Perm (L.map Ent.name))
    (h1 : L' = crashGo fates ss 0 L) (h2 : R'.map rk = crashT fates ((listI R).map tl) 0 (R.map rk)) : L'.map ek = R'.map rk := by
  have hn : L.map Ent.name = R.map (fun f => f.name.data.toList) := by
    have := congrArg (List.map (fun t : Tri => t.1)) h
    rwa [List.map_map, List.map_map] at this
  rw [hn] at hp
  have he : ss = (listI R).map tl := names_eq hs hp
  rw [h1, crash_ek, h2, h, he]
end
end Go.Proofs.Ytpeobjnamflibaa.Dk
