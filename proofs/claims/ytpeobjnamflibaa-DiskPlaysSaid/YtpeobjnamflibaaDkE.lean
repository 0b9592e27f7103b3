/-
  The Go text of how many bytes a disk has, walked. Conditions: as each theorem states.
-/
import Derived.Test.YtpeobjnamflibaaDkD
import Derived.Maps.RangeWalk
import Derived.Sort.KeysCollected
namespace Go.Proofs.Ytpeobjnamflibaa.Dk
open Go.RowKit Go.Maps

theorem file0 {w : World} {e : Ent} (h : FileAt w e) : w.cell? ⟨e.blk, 0, none⟩ = some e.v := cell_in h.cells 0 _ rfl
theorem file1 {w : World} {e : Ent} (h : FileAt w e) : w.cell? ⟨e.blk, 1, none⟩ = some (.int .i64 (e.sure : Int)) := cell_in h.cells 1 _ rfl
/-- a file's slice, as a value -/
theorem file_v {w : World} {e : Ent} (h : FileAt w e) : ∃ a c, e.v = .slice a e.bytes.length c := by
  rcases h.row.2 with ⟨h1, h2⟩ | ⟨g, cap, cur, h1, _⟩
  · exact ⟨none, 0, by rw [h1, h2]⟩
  · exact ⟨_, _, h1⟩
def mkPtr : Option Nat → Value
  | none => .pointer none
  | some F => .pointer (some ⟨F, 0, none⟩)
theorem ptrElem_inv {v : Value} {y : DataW Unit × List MemPlace} (h : ptrElem v = some y) : ∃ c, v = mkPtr c := by
  unfold ptrElem at h
  split at h
  · exact ⟨none, rfl⟩
  · rename_i F; exact ⟨some F, rfl⟩
  · cases h
/-- the bytes of the files that are gone through -/
def doneL (left : Lit → Bool) (L : List Ent) : Nat := usedL (L.filter fun e => !left (.string e.name))
theorem doneL_start {D : DataW Unit} {L : List Ent} (hM : MapIs D L) : doneL (Maps.has D) L = 0 := by
  unfold doneL
  have : L.filter (fun e => !Maps.has D (.string e.name)) = [] := by
    rw [List.filter_eq_nil_iff]
    intro e he
    simp [(hM.has e.name).2 ⟨e, he, rfl⟩]
  rw [this]; rfl
theorem doneL_end {left : Lit → Bool} {L : List Ent} (h : ∀ k, left k = false) : doneL left L = usedL L := by
  unfold doneL
  rw [List.filter_eq_self.2 (by intro e _; simp [h])]
theorem doneL_step {left : Lit → Bool} : ∀ {L : List Ent}, L.Pairwise (fun a b => a.name ≠ b.name) → ∀ {e : Ent}, e ∈ L → left (.string e.name) = true →
    doneL (fun z => left z && !z.sameKey (.string e.name)) L = doneL left L + e.bytes.length := by
  intro L
  induction L with
  | nil => intro _ e he; cases he
  | cons a L ih =>
    intro hp e he hl
    obtain ⟨h1, h2⟩ := List.pairwise_cons.1 hp
    have key : ∀ b : Ent, b.name ≠ e.name → (Lit.string b.name).sameKey (.string e.name) = false := fun b hb => Maps.sameKey_ne (lit_ne hb)
    rcases List.mem_cons.1 he with rfl | he
    · have hs : (Lit.string e.name).sameKey (.string e.name) = true := WideAt.sameKey_self (isKey _)
      have hrest : L.filter (fun b => !(left (.string b.name) && !(Lit.string b.name).sameKey (.string e.name))) = L.filter (fun b => !left (.string b.name)) := by
        apply List.filter_congr
        intro b hb
        rw [key b (fun h => h1 b hb h.symm)]; simp
      unfold doneL
      rw [List.filter_cons, List.filter_cons]
      simp only [hs, hl, hrest]
      simp [usedL]
      omega
    · have hne : a.name ≠ e.name := h1 e he
      have := ih h2 he hl
      unfold doneL at this ⊢
      rw [List.filter_cons, List.filter_cons]
      simp only [key a hne]
      cases hla : left (.string a.name)
      · simp [usedL] at this ⊢; omega
      · simpa using this
theorem doneL_le (left : Lit → Bool) (L : List Ent) : doneL left L ≤ usedL L := by
  unfold doneL
  induction L with
  | nil => exact Nat.le_refl _
  | cons a L ih =>
    rw [List.filter_cons]
    split
    · simp [usedL] at ih ⊢; omega
    · simp [usedL] at ih ⊢; omega
theorem used_nil (w : World) : Calls Try.prog 30 #[.pointer none] w fun e w' => e = .returned (.int .i64 0) ∧ w = w' := by
  go_enter Try.func30, Try.ntmps30
  go_wp2
  go_ret
  exact ⟨rfl, rfl⟩
def UsedRel (w : World) (m : Nat) (L : List Ent) (D : DataW Unit) (s : Value) (wr : World) : Prop :=
  ∃ left cnt, s = .int .i64 ((doneL left L : Nat) : Int) ∧ wr.ranges Try.prog 9 ptrElem m w.heap.size L.length D left cnt ∧ (∀ x, left (.string x) = true → ∃ e ∈ L, e.name = x) ∧ Below w.heap.size w wr
theorem used_any {w : World} {d m : Nat} {L : List Ent} {room steps fuse fault : Int} {down : Bool} (h : DiskAt w d m L room steps fuse fault down) :
    Calls Try.prog 30 #[.pointer (some ⟨d, 0, none⟩)] w fun e w' => e = .returned (.int .i64 ((usedL L : Nat) : Int)) ∧ Below w.heap.size w w' := by
  obtain ⟨D, ho, hM⟩ := h.map
  have c0 := disk0 h.disk
  have H := Lib.hid (And.intro h (And.intro ho hM))
  clear h ho hM
  go_enter Try.func30, Try.ntmps30
  go_wp2_with (at_range; refine wpList_range_own _ rfl _ 42 rfl 9 59 key9 Try.underlying42 ptrElem m L.length D rfl H.out.2.1 ?_; intro w0 hrg0 hg0 hs0)
  go_frame
  go_loopw [3] (UsedRel w m L D) (fun _ wr => wr.rangeLeft m w.heap.size)
  case atStart => exact ⟨_, _, by rw [doneL_start H.out.2.2]; rfl, hrg0, fun x hx => (H.out.2.2.has x).1 hx, ⟨hg0.os, hg0.tape, hg0.output, hg0.size, fun k hk => hg0.block k hk (by simp)⟩⟩
  case round =>
    obtain ⟨left, cnt, rfl, hrg, hleft, hbr⟩ := hrel
    have hdl := doneL_le left L
    have hvol := H.out.1.vol
    have HR := Lib.hid (And.intro hrg (And.intro hleft hbr))
    clear hrg hleft hbr
    go_wp2_with (first
      | (at_next; refine wpList_next_ranges _ rfl _ rfl 9 key9 ptrElem encStr mkPtr (fun key kl hk => by obtain ⟨x, h1, _⟩ := Maps.keyOf_str Try.underlying9 hk; exact ⟨x, h1⟩) (fun v y hv => ptrElem_inv hv) m w.heap.size L.length D left cnt rfl HR.out.1 ?_ ?_))
    · intro _ hl0
      go_wp2
      go_ret
      exact ⟨by rw [← doneL_end hl0]; rfl, HR.out.2.2⟩
    · intro x c kl y1 y2 w1 cnt1 hkey hlk hv hat hrg1 hlt hg1 hs1 hen
      obtain ⟨x', hx1, hx2, _⟩ := Maps.keyOf_str Try.underlying9 hkey
      obtain rfl := encStr_inj hx1
      subst hx2
      obtain ⟨e, he, rfl⟩ := HR.out.2.1 x hlk
      have hat' := hat .nil
      rw [H.out.2.2.here e he] at hat'
      subst hat'
      have hc : c = some e.blk := by
        have := ptrElem_at hv
        cases c with
        | none => simp [mkPtr] at this
        | some F => simp [mkPtr] at this; rw [this]
      subst hc
      have hb1 : Below w.heap.size w w1 := HR.out.2.2.trans ⟨hg1.os, hg1.tape, hg1.output, hg1.size, fun k hk => hg1.block k (Nat.lt_of_lt_of_le hk HR.out.2.2.size) (by intro e; injection e with e; omega)⟩
      have hF := (H.out.1.files e he).kept (w' := w1) (fun k hk => hb1.block k ((H.out.1.files e he).lt k hk))
      have f0 := file0 hF
      obtain ⟨va, vc, hev⟩ := file_v hF
      rw [hev] at f0
      have hsum := doneL_step H.out.1.names he hlk
      have hle := doneL_le (fun z => left z && !z.sameKey (.string e.name)) L
      have HS := Lib.hid hsum
      have hbd : doneL left L + e.bytes.length ≤ 16777216 := by rw [← hsum]; omega
      have hm1 : mkPtr (some e.blk) = .pointer (some ⟨e.blk, 0, none⟩) := rfl
      rw [hm1] at hen
      have HX := Lib.hid (And.intro hrg1 (And.intro hb1 hlt))
      clear hsum hle hrg1 hb1 hg1 hs1 hF hev hv hat hlk hkey hlt
      rw [hm1]
      go_wp2
      go_roundw
      case rel => exact ⟨_, cnt1, by rw [HS.out]; go_num, HX.out.1, fun z hz => HR.out.2.1 z (by simp at hz; exact hz.1), HX.out.2.1⟩
      case measure => rw [HX.out.1.left_eq, HR.out.1.left_eq]; exact HX.out.2.2
end Go.Proofs.Ytpeobjnamflibaa.Dk
