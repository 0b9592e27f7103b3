/-
  A skip list's pairs, its numbers, what it answers of a key: the Go text walked. Conditions: as each theorem states.
-/
import Derived.Test.YtadejeoiffaimaaDoorSkC
import Derived.Deep.QuietTactic
import Derived.BigQuiet
import Derived.BigRegion
import Derived.Deep.RegionHeld3
namespace Go.Proofs.YtadejeoiffaimaaDoor.Sk
open Go.RowKit

theorem below_drew (B : Nat) (w : World) : Below B w w.drew := ⟨rfl, rfl, rfl, Nat.le_refl _, fun _ _ => rfl⟩
section
variable {w : World} {l : Nat} {v : Value} {s : Ls} {bytes steps : Int}
theorem bcell {W w1 : World} (hb : Below W.heap.size W w1) : (∀ b o, b < W.heap.size → w1.cell? ⟨b, o, none⟩ = W.cell? ⟨b, o, none⟩) ∧ (∀ b o, b < W.heap.size → w1.frozen? ⟨b, o, none⟩ = W.frozen? ⟨b, o, none⟩) :=
  ⟨fun b o h => hb.cell (p := ⟨b, o, none⟩) h, fun b o h => hb.frozen (p := ⟨b, o, none⟩) h⟩
set_option maxHeartbeats 1000000 in
theorem pair_any (h : SkAt w l v s bytes steps) {p : Nat} (hp : p ∈ s.S) :
    Calls Tryd.prog 50 #[.pointer (some ⟨l, 0, none⟩), .int .i32 p] w fun e w' => e = .returned (.tuple #[.string (s.K p), .string (s.V p)]) ∧ Below w.heap.size w w' := by
  obtain ⟨h1, h2⟩ := h.ok.mem p hp
  have h3 := h.few
  obtain ⟨f1, f2⟩ := h.fit p hp
  have F1 : Hid ((s.K p).size ≤ 281474976710656) := Nat.le_trans f1 (by decide)
  have F2 : Hid ((s.V p).size ≤ 281474976710656) := Nat.le_trans f2 (by decide)
  clear f1 f2
  obtain ⟨g, cap, hv, hgl, hcell⟩ := h.tower h1 h2
  have hc0 : Hid (w.cell? ⟨l, 0, none⟩ = some (.slice (some ⟨g, 0, none⟩) s.n cap)) := by
    show w.cell? ⟨l, 0, none⟩ = some (.slice (some ⟨g, 0, none⟩) s.n cap)
    rw [h.cell0, hv]
  have hg : g < w.heap.size := h.lt g (by simp [feet, hv, Value.ownBlock])
  have k0 := (hcell 0 _ rfl).1
  have k1 := (hcell 1 _ rfl).1
  rw [Nat.add_zero] at k0
  clear hcell h hv
  go_enter Tryd.func50, Tryd.ntmps50
  go_wp2_with (first
    | (go_at_call 39; (with_reducible refine (tower_any hc0.out h1 h2 h3).mono ?_); rintro e w3 ⟨rfl, rfl⟩))
  have HK := Lib.hid (And.intro k0 k1)
  go_region_held3 (fun wx => wx.cell? ⟨g, (p - 1) * 15, none⟩ = some (.string (s.K p)) ∧ wx.cell? ⟨g, (p - 1) * 15 + 1, none⟩ = some (.string (s.V p))) (first | exact HK.out | exact K4.out | exact K5.out)
    (first
      | (go_at_call 24; (with_reducible refine (clone_any _ _ F1).mono ?_); rintro e w4 ⟨rfl, hb4⟩; have K4 : Hid (w4.cell? ⟨g, (p - 1) * 15, none⟩ = some (.string (s.K p)) ∧ w4.cell? ⟨g, (p - 1) * 15 + 1, none⟩ = some (.string (s.V p))) := ⟨(hb4.cell (p := ⟨g, (p - 1) * 15, none⟩) hg).trans HK.out.1, (hb4.cell (p := ⟨g, (p - 1) * 15 + 1, none⟩) hg).trans HK.out.2⟩)
      | (go_at_call 24; (with_reducible refine (clone_any _ _ F2).mono ?_); rintro e w5 ⟨rfl, hb5⟩; have K5 : Hid (w5.cell? ⟨g, (p - 1) * 15, none⟩ = some (.string (s.K p)) ∧ w5.cell? ⟨g, (p - 1) * 15 + 1, none⟩ = some (.string (s.V p))) := ⟨(hb5.cell (p := ⟨g, (p - 1) * 15, none⟩) (by have := hb4.size; simp at this ⊢; omega)).trans K4.out.1, (hb5.cell (p := ⟨g, (p - 1) * 15 + 1, none⟩) (by have := hb4.size; simp at this ⊢; omega)).trans K4.out.2⟩))
  go_wp2
  go_ret2
  exact ⟨rfl, (below_drew _ _).trans (hb4.trans (hb5.mono hb4.size))⟩
theorem len_any (h : SkAt w l v s bytes steps) : Calls Tryd.prog 30 #[.pointer (some ⟨l, 0, none⟩)] w fun e w' => e = .returned (.int .i64 (s.n : Nat)) ∧ w = w' := by
  have hv : ∃ a c, v = .slice a s.n c := by
    rcases h.row.2 with ⟨hv, h0⟩ | ⟨g, cap, cur, hv, _⟩
    · exact ⟨none, 0, by rw [hv, h0]⟩
    · exact ⟨_, _, hv⟩
  obtain ⟨a, c, hv⟩ := hv
  have hc := h.cell0
  rw [hv] at hc
  clear h hv
  go_enter Tryd.func30, Tryd.ntmps30
  go_wp2
  go_ret
  exact ⟨rfl, rfl⟩
theorem bytes_any (h : SkAt w l v s bytes steps) : Calls Tryd.prog 31 #[.pointer (some ⟨l, 0, none⟩)] w fun e w' => e = .returned (.int .i64 (total (pairs s) : Nat)) ∧ w = w' := by
  have hc := h.cell13
  rw [h.tot] at hc
  clear h
  go_enter Tryd.func31, Tryd.ntmps31
  go_wp2
  go_ret
  exact ⟨rfl, rfl⟩
end
def SearchAt (l : Nat) (v : Value) (s : Ls) (bytes : Int) (ah : Nat → Nat) (at_ : Nat) (th : Bool) (w : World) (e : Ending) (w' : World) : Prop :=
  ∃ st : Nat, st ≤ s.n + 12 ∧ e = .returned (.agg (spotCells ah at_ th st).toArray) ∧ SkAt w' l v s bytes st ∧ Moves w (feet l v) w' (feet l v)
def SeekAt (l : Nat) (v : Value) (s : Ls) (bytes steps : Int) (ah : Nat → Nat) (at_ : Nat) (th : Bool) (w : World) (e : Ending) (w' : World) : Prop :=
  ∃ st : Nat, st ≤ s.n + 12 ∧ e = .returned (.agg (spotCells ah at_ th st).toArray) ∧ SkAt w' l v s bytes steps ∧ Below w.heap.size w w'
section
variable {w : World} {l : Nat} {v : Value} {s : Ls} {bytes steps : Int}
theorem search_at (h : SkAt w l v s bytes steps) (k : ByteArray) {ah : Nat → Nat} {at_ : Nat} {th : Bool} (ha : prv s.H s.S (pos s k) = ah ∧ nxt s.H s.S (pos s k) 0 = at_) (ht : there s k = th) :
    Calls Tryd.prog 38 #[.pointer (some ⟨l, 0, none⟩), .string k] w (SearchAt l v s bytes ah at_ th w) := by
  obtain ⟨rfl, rfl⟩ := ha
  subst ht
  exact search_any h k
theorem seek_at (h : SkAt w l v s bytes steps) (k : ByteArray) {ah : Nat → Nat} {at_ : Nat} {th : Bool} (ha : prv s.H s.S (pos s k) = ah ∧ nxt s.H s.S (pos s k) 0 = at_) (ht : there s k = th) :
    Calls Tryd.prog 53 #[.pointer (some ⟨l, 0, none⟩), .string k] w (SeekAt l v s bytes steps ah at_ th w) := by
  obtain ⟨rfl, rfl⟩ := ha
  subst ht
  exact (seek_any h k).mono fun e w' ⟨st, h1, h2, h3⟩ => ⟨st, h1, h2, h.below h3, h3⟩
/-- a spot is laid into a box of its own -/
theorem spot_box {w0 w1 : World} {Z cs : Array Value} {T : TypeId} {fp : List Nat} (h : SkAt w1 l v s bytes steps) (hm : Moves w0 fp w1 (feet l v)) :
    ((w1.alloc (.cells Z T)).setRow w1.heap.size cs).heap[w1.heap.size]? = some (.cells cs T (0, 0)) ∧ SkAt ((w1.alloc (.cells Z T)).setRow w1.heap.size cs) l v s bytes steps ∧ Moves w0 fp ((w1.alloc (.cells Z T)).setRow w1.heap.size cs) (feet l v) := by
  have hB : Below w1.heap.size w1 ((w1.alloc (.cells Z T)).setRow w1.heap.size cs) := below_setRow ((Below.refl _ w1).alloc (Nat.le_refl _) _) (Nat.le_refl _) _
  exact ⟨heap_setRow_at (heap_alloc_new w1 _), h.below hB, hm.on hB⟩
def GetPost (l : Nat) (v : Value) (s : Ls) (bytes : Int) (r : ByteArray) (ok : Bool) (w : World) (e : Ending) (w' : World) : Prop :=
  ∃ st : Nat, st ≤ s.n + 12 ∧ e = .returned (.tuple #[.string r, .bool ok]) ∧ SkAt w' l v s bytes st ∧ Moves w (feet l v) w' (feet l v)
end
end Go.Proofs.YtadejeoiffaimaaDoor.Sk
