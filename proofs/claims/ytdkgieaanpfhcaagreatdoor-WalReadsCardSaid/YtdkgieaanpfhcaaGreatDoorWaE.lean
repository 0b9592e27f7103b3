/-
  The document's own batches, walked: Parse. Conditions: as each theorem states.
-/
import Derived.Test.YtdkgieaanpfhcaaGreatDoorWaD
import Derived.Test.YtdkgieaanpfhcaaGreatDoorWaR
namespace Go.Proofs.YtdkgieaanpfhcaaGreatDoor.Wa
open Go.RowKit
open Go.Proofs.YtdkgieaanpfhcaaGreatDoor
open Vi Ba

/-- Parse under way: the reader, the row -/
structure QS (w : World) (s : ByteArray) (v : Value) (l : List Chg) (at_ : Nat) (err : Int) (W : World) : Prop where
  rd : RdAt 103 W w.heap.size s at_ err
  own : W.ownsRow (w.heap.size + 1) 63 3 v l.length (cCells l)
  below : Below w.heap.size w W
/-- and a change that is read, in a box -/
structure QB (w : World) (s : ByteArray) (v : Value) (l : List Chg) (kb : Nat) (c0 c1 c2 : Value) (at_ : Nat) (err : Int) (W : World) : Prop where
  q : QS w s v l at_ err W
  box : W.heap[kb]? = some (.cells #[c0, c1, c2] 63 (0, 0))
  far : w.heap.size < kb
  apart : ∀ k, v.ownBlock = some k → k ≠ kb
section
variable {w : World} {s : ByteArray} {v : Value} {l : List Chg} {kb : Nat} {c0 c1 c2 : Value} {at_ : Nat} {err : Int} {W W' : World}
theorem QS.size (h : QS w s v l at_ err W) : w.heap.size < W.heap.size := rd_lt h.rd
theorem qs_grown (h : QS w s v l at_ err W) {at2 : Nat} {err2 : Int} (hr : RdAt 103 W' w.heap.size s at2 err2) (hg : W.grownBy W' (some w.heap.size)) : QS w s v l at2 err2 W' :=
  ⟨hr, h.own.kept hg (.inr (fun e => by have := (h.own.lt _ e).1; omega)), h.below.trans ⟨hg.os, hg.tape, hg.output, hg.size, fun k hk => hg.block k (by have := h.size; omega) (fun e => by injection e with e; omega)⟩⟩
theorem qb_grown (h : QB w s v l kb c0 c1 c2 at_ err W) {at2 : Nat} {err2 : Int} (hr : RdAt 103 W' w.heap.size s at2 err2) (hg : W.grownBy W' (some w.heap.size)) : QB w s v l kb c0 c1 c2 at2 err2 W' :=
  ⟨qs_grown h.q hr hg, (hg.block kb (hp_lt h.box) (fun e => by injection e with e; have := h.far; omega)).trans h.box, h.far, h.apart⟩
theorem qs_below (h : QS w s v l at_ err W) (hb : Below W.heap.size W W') : QS w s v l at_ err W' :=
  qs_grown h (by unfold RdAt; rw [hb.block _ (rd_lt h.rd)]; exact h.rd) (grown_below hb _)
theorem qb_new (h : QS w s v l at_ err W) (c0 c1 c2 : Value) : QB w s v l W.heap.size c0 c1 c2 at_ err (W.alloc (.cells #[c0, c1, c2] 63 (0, 0))) :=
  ⟨qs_below h ((Below.refl _ W).alloc (Nat.le_refl _) _), heap_alloc_new W _, h.size, fun k hk => by have := (h.own.lt _ hk).2; omega⟩
theorem qb_set (h : QB w s v l kb c0 c1 c2 at_ err W) (i : Nat) (x : Value) : W'= W.setCell ⟨kb, i, none⟩ x → QS w s v l at_ err W' := fun e => by
  subst e
  have hf := h.far
  have hset : ∀ k, k ≠ kb → (W.setCell ⟨kb, i, none⟩ x).heap[k]? = W.heap[k]? := fun k hk => Below.heap_setCell W ⟨kb, i, none⟩ x k (fun e => hk (by simpa using e))
  refine ⟨?_, h.q.own.kept (grown_set W kb i x) (.inr fun e => h.apart _ e rfl), h.q.below.setCell (p := ⟨kb, i, none⟩) (by show w.heap.size ≤ kb; omega) _⟩
  unfold RdAt; rw [hset _ (by omega)]; exact h.q.rd
theorem qb_set0 (h : QB w s v l kb c0 c1 c2 at_ err W) (x : Value) : QB w s v l kb x c1 c2 at_ err (W.setCell ⟨kb, 0, none⟩ x) := ⟨qb_set h 0 x rfl, heap_set h.box 0 x, h.far, h.apart⟩
theorem qb_set1 (h : QB w s v l kb c0 c1 c2 at_ err W) (x : Value) : QB w s v l kb c0 x c2 at_ err (W.setCell ⟨kb, 1, none⟩ x) := ⟨qb_set h 1 x rfl, heap_set h.box 1 x, h.far, h.apart⟩
theorem qb_set2 (h : QB w s v l kb c0 c1 c2 at_ err W) (x : Value) : QB w s v l kb c0 c1 x at_ err (W.setCell ⟨kb, 2, none⟩ x) := ⟨qb_set h 2 x rfl, heap_set h.box 2 x, h.far, h.apart⟩
theorem qb_cells (h : QB w s v l kb c0 c1 c2 at_ err W) : W.cell? ⟨kb, 0, none⟩ = some c0 ∧ W.cell? ⟨kb, 1, none⟩ = some c1 ∧ W.cell? ⟨kb, 2, none⟩ = some c2 ∧ ∀ j, W.frozen? ⟨kb, j, none⟩ = false := ⟨cell_in h.box 0 _ rfl, cell_in h.box 1 _ rfl, cell_in h.box 2 _ rfl, free_in h.box⟩
theorem qs_bad (h : QS w s v l at_ err W) : W.cell? ⟨w.heap.size, 2, none⟩ = some (.int .i64 err) := rd2 h.rd
theorem qs_start (w : World) (s : ByteArray) : QS w s (.slice none 0 0) [] 0 0 (w.alloc (.cells #[.string s, .int .i64 0, .int .i64 0] 103 (0, 0))) :=
  ⟨heap_alloc_new w _, World.ownsRow_nil _ _ _ _, (Below.refl _ w).alloc (Nat.le_refl _) _⟩
end
theorem dText_bad {L : List UInt8} {a : Nat} {e m : Int} (he : ¬ e = 0) : dText L a e m = ([], a, e) := by
  rw [dText_eq, dNum_bad he]
  simp only
  rw [if_neg (by omega), dTake_bad he]
theorem text_bad {w : World} {a : Nat} {s : ByteArray} {at_ : Nat} {err : Int} (most : Int) (hmo : most ≤ 9223372036854775807) (h : RdAt 103 w a s at_ err) (hs : s.size ≤ 1000000) (ha : at_ ≤ s.size) (he : ¬ err = 0) :
    Calls Tryz.prog 53 #[.pointer (some ⟨a, 0, none⟩), .int .i64 most] w (RdPost 103 w a s (.string ⟨#[]⟩) (at_, err)) := by
  have := qtext_any most hmo h hs ha
  rw [dText_bad he] at this
  exact this
theorem news3k (W : World) (k : Nat) (hk : k = W.heap.size) (x0 x1 x2 : Value) (t : TypeId) : ∀ j y, [x0, x1, x2][j]? = some y → (W.alloc (.cells #[x0, x1, x2] t)).cell? ((⟨k, 0, none⟩ : Addr).add j) = some y := by
  subst hk
  exact World.news_of_block (heap_alloc_new W _)
theorem below_drewN {B : Nat} {a w : World} (h : Below B a w) (n : Nat) : Below B a (w.drewN n) := ⟨h.os, h.tape, h.output, h.size, h.block⟩
theorem big_one (c : UInt8) : big [c] = c.toNat := by simp [big]
theorem qs_put {w : World} {s : ByteArray} {v v2 : Value} {l : List Chg} {at_ : Nat} {err : Int} {W W2 : World} {o : Obj} {c : Chg} (h : QS w s v l at_ err W) (ho : W2.ownsRow (w.heap.size + 1) 63 3 v2 (l.length + 1) (cCells l ++ c.cells)) (hg : (W.alloc o).grownBy W2 v.ownBlock) : QS w s v2 (l ++ [c]) at_ err W2 := by
  have hz := h.size
  have hb : Below W.heap.size W (W.alloc o) := (Below.refl _ W).alloc (Nat.le_refl _) _
  have hA := qs_below h hb
  have hne : ∀ k, some k = v.ownBlock → w.heap.size + 1 ≤ k := fun k hk => (h.own.lt k hk.symm).1
  refine ⟨?_, by rw [cCells_snoc, List.length_append]; exact ho, hA.below.trans ⟨hg.os, hg.tape, hg.output, hg.size, fun k hk => hg.block k (by simp; omega) (fun e => by have := hne k e; omega)⟩⟩
  unfold RdAt
  rw [hg.block _ (by simp; omega) (fun e => by have := hne _ e; omega)]
  exact hA.rd
/-- how a change is read: four ways -/
theorem rdC_ways (L : List UInt8) (at_ : Nat) : (∃ p1 : Nat × Int, dTake L at_ 0 1 = ([], p1) ∧ ¬ p1.2 = 0 ∧ rdC L at_ 0 = (⟨0, ⟨#[]⟩, ⟨#[]⟩⟩, p1)) ∨
    ∃ (c : UInt8) (a1 : Nat), dTake L at_ 0 1 = ([c], a1, 0) ∧
      ((¬ (c.toNat = 1 ∨ c.toNat = 2) ∧ rdC L at_ 0 = (⟨c.toNat, ⟨#[]⟩, ⟨#[]⟩⟩, a1, 11)) ∨
       (c.toNat = 1 ∧ rdC L at_ 0 = (⟨1, bs (dText L a1 0 200).1, bs (dText L (dText L a1 0 200).2.1 (dText L a1 0 200).2.2 4096).1⟩, (dText L (dText L a1 0 200).2.1 (dText L a1 0 200).2.2 4096).2)) ∨
       (c.toNat = 2 ∧ rdC L at_ 0 = (⟨2, bs (dText L a1 0 200).1, ⟨#[]⟩⟩, (dText L a1 0 200).2))) := by
  by_cases h : (L.length : Int) - at_ < 1
  · left
    have h1 := dTake_short (l := L) (at_ := at_) (n := 1) (.inr h)
    refine ⟨_, h1, by simp, ?_⟩
    unfold rdC; rw [h1]
  · right
    have h1 := dTake_ok (l := L) (at_ := at_) (n := 1) (by decide) (by omega)
    have hlt : at_ < L.length := by omega
    have h2 : (L.drop at_).take (Int.toNat 1) = [L[at_]] := by
      rw [List.drop_eq_getElem_cons hlt]; rfl
    rw [h2] at h1
    refine ⟨L[at_], _, h1, ?_⟩
    generalize L[at_] = c at h1
    by_cases k1 : c.toNat = 1
    · refine .inr (.inl ⟨k1, ?_⟩)
      unfold rdC; rw [h1]; simp only [k1]; simp
    · by_cases k2 : c.toNat = 2
      · refine .inr (.inr ⟨k2, ?_⟩)
        unfold rdC; rw [h1]; simp only [k2]; simp
      · refine .inl ⟨by omega, ?_⟩
        have h3 : ∀ a, dText L a 11 200 = ([], a, 11) := fun a => dText_bad (by decide)
        unfold rdC; rw [h1]; simp only [if_neg (show ¬ (c.toNat = 1 ∨ c.toNat = 2) by omega), if_neg k1, dFail_ok, h3]; rfl
def PaQ (w : World) (s : ByteArray) (n : Nat) (vv iv : Value) (W : World) : Prop :=
  ∃ (i : Nat) (l : List Chg) (at_ : Nat) (err : Int), iv = .int .u64 i ∧ i ≤ n ∧ QS w s vv l at_ err W ∧ at_ ≤ s.size ∧ rdL s.data.toList (n - i) at_ err l = pRows s.data.toList ∧ (err = 0 → l.length + (n - i) ≤ 2000) ∧ (∀ p ∈ l, p.small) ∧ l.length ≤ 2000
def QPost (w : World) (s : ByteArray) (e : Ending) (w' : World) : Prop :=
  ∃ v, e = .returned (.tuple #[.int .u64 (parse s.data.toList).2.1, v, .int .i64 (parse s.data.toList).2.2]) ∧ w'.ownsRow w.heap.size 63 3 v (parse s.data.toList).1.length (cCells (parse s.data.toList).1) ∧ Below w.heap.size w w'
set_option maxHeartbeats 4000000 in
set_option maxRecDepth 100000 in
theorem qparse_any (s : ByteArray) (hs : s.size ≤ 1000000) (w : World) :
    Calls Tryz.prog 28 #[.string s] w (QPost w s) := by
  obtain ⟨i0, hi, hz0, hz1, hz2⟩ := info_parts infoChg
  have HI := Lib.hid (And.intro hi (And.intro hz0 (And.intro hz1 hz2)))
  clear hi hz0 hz1 hz2
  have ha1 := dTake_at (l := s.data.toList) (at_ := 0) (err := 0) (n := 8) (by omega)
  have W1 : Hid (∀ (W : World), RdAt 103 W w.heap.size s 0 0 → Calls Tryz.prog 50 #[.pointer (some ⟨w.heap.size, 0, none⟩), .int .i64 8] W (RdPost 103 W w.heap.size s (.int .u64 (pSeq s.data.toList)) (dTake s.data.toList 0 0 8).2)) := fun (W : World) h => qlittle_any 8 (by decide) h hs (by omega)
  have ha2 : (pNum s.data.toList).2.1 ≤ s.data.toList.length := dNum_at ha1
  have N1 : Hid (∀ (W : World), RdAt 103 W w.heap.size s (dTake s.data.toList 0 0 8).2.1 (dTake s.data.toList 0 0 8).2.2 → Calls Tryz.prog 51 #[.pointer (some ⟨w.heap.size, 0, none⟩)] W (RdPost 103 W w.heap.size s (.int .u64 (pNum s.data.toList).1) (pNum s.data.toList).2)) := fun (W : World) h => qnum_any h hs ha1
  have hnl : (pNum s.data.toList).1 < 18446744073709551616 := dNum_lt _ _ _
  have HR : Hid (rdL s.data.toList ((pNum s.data.toList).1 - 0) (pAt s.data.toList).1 (pAt s.data.toList).2 [] = pRows s.data.toList) := rfl
  have HA : Hid (pAt s.data.toList = if 2000 < (pNum s.data.toList).1 then dFail (pNum s.data.toList).2.1 (pNum s.data.toList).2.2 6 else (pNum s.data.toList).2) := rfl
  have hq : pSeq s.data.toList < 18446744073709551616 := by
    have h1 := dTake_small (l := s.data.toList) (at_ := 0) (err := 0) (n := 8) (by omega)
    have h2 := big_lt (dTake s.data.toList 0 0 8).1
    exact Nat.lt_of_lt_of_le h2 (Nat.le_trans (Nat.pow_le_pow_right (by decide) h1) (by decide))
  have Q0 := Lib.hid (qs_start w s)
  generalize (dTake s.data.toList 0 0 8).2 = p0 at W1 N1 ha1
  generalize hX : pNum s.data.toList = N at N1 ha2 hnl HR HA
  obtain ⟨n0, p1⟩ := N
  simp only at N1 ha2 hnl HR HA
  obtain ⟨sq, hsq⟩ : ∃ sq, sq = pSeq s.data.toList := ⟨_, rfl⟩
  rw [← hsq] at W1 hq
  have HSQ := Lib.hid hsq
  clear hsq
  go_enter Tryz.func28, Tryz.ntmps28
  rcases Nat.lt_or_ge 2000 n0 with hmany | hmany
  case' inl =>
    have HA2 : Hid (pAt s.data.toList = dFail p1.1 p1.2 6) := HA.out.trans (if_pos hmany)
    have F1 := Lib.hid fun (W : World) (h : RdAt 103 W w.heap.size s p1.1 p1.2) => qfail_any 6 h
    go_wp2_with (first
      | (go_at_call 50; (with_reducible refine (W1.out _ Q0.out.rd).mono ?_); rintro e w2 ⟨rfl, h2, g2⟩; have P2 := Lib.hid (qs_grown Q0.out h2 g2); clear h2 g2)
      | (go_at_call 51; (with_reducible refine (N1.out _ P2.out.rd).mono ?_); rintro e w3 ⟨rfl, h3, g3⟩; have P3 := Lib.hid (qs_grown P2.out h3 g3); clear h3 g3)
      | (go_at_call 52; (with_reducible refine (F1.out _ P3.out.rd).mono ?_); rintro e w4 ⟨rfl, h4, g4⟩; have P4 := Lib.hid (qs_grown P3.out h4 g4); clear h4 g4))
    have PX : Hid (QS w s (.slice none 0 0) [] (pAt s.data.toList).1 (pAt s.data.toList).2 w4) := by rw [HA2.out]; exact P4.out
    have HZ : Hid ((pAt s.data.toList).2 = 0 → n0 ≤ 2000) := fun h => by
      rw [HA2.out] at h
      by_cases he : p1.2 = 0
      · rw [he, dFail_ok] at h; simp at h
      · rw [dFail_bad he] at h; exact absurd h he
    have HT : Hid ((pAt s.data.toList).1 ≤ s.size) := by rw [HA2.out]; rw [Hid, dFail_at]; exact ha2
  case' inr =>
    have HA2 : Hid (pAt s.data.toList = p1) := HA.out.trans (if_neg (by omega))
    go_wp2_with (first
      | (go_at_call 50; (with_reducible refine (W1.out _ Q0.out.rd).mono ?_); rintro e w2 ⟨rfl, h2, g2⟩; have P2 := Lib.hid (qs_grown Q0.out h2 g2); clear h2 g2)
      | (go_at_call 51; (with_reducible refine (N1.out _ P2.out.rd).mono ?_); rintro e w3 ⟨rfl, h3, g3⟩; have P3 := Lib.hid (qs_grown P2.out h3 g3); clear h3 g3))
    have PX : Hid (QS w s (.slice none 0 0) [] (pAt s.data.toList).1 (pAt s.data.toList).2 w3) := by rw [HA2.out]; exact P3.out
    have HZ : Hid ((pAt s.data.toList).2 = 0 → n0 ≤ 2000) := fun h => by
      exact hmany
    have HT : Hid ((pAt s.data.toList).1 ≤ s.size) := by rw [HA2.out]; exact ha2
  all_goals
    clear HA HA2 P2 P3 hmany Q0 W1 N1
    go_loopw [8, 9] (PaQ w s n0) (fun _ iv _ => n0 - (intOf iv).toNat)
    case atStart => exact ⟨0, [], _, _, rfl, by omega, PX.out, HT.out, HR.out, fun h => by have := HZ.out h; simpa using this, (fun p hp => by cases hp), by simp⟩
    case round =>
      obtain ⟨i, l, at_, err, rfl, hin, Q, hat, hrd, hle, hsm, hll⟩ := hrel
      obtain ⟨A0, k0, rfl⟩ : ∃ A c, u8 = .slice A l.length c := by
        rcases Q.own.2 with ⟨e, h0⟩ | ⟨g, cap, cur, e, _⟩
        · exact ⟨none, 0, by rw [e, h0]⟩
        · exact ⟨_, _, e⟩
      replace Q := Lib.hid Q
      replace hsm := Lib.hid hsm
      have hbad := qs_bad Q.out
      clear PX HZ HT HR
      by_cases hgo : i < n0 ∧ err = 0
      · obtain ⟨hlt, rfl⟩ := hgo
        have hle := hle rfl
        obtain ⟨m, hm⟩ : ∃ m, n0 - i = m + 1 := ⟨n0 - i - 1, by omega⟩
        rw [hm, rdL_on] at hrd
        have hsc := rdC_small (L := s.data.toList) (at_ := at_) (err := 0) hs
        have hac := rdC_at (L := s.data.toList) (at_ := at_) (err := 0) hat
        have lt : ∀ (W : World), RdAt 103 W w.heap.size s at_ 0 → Calls Tryz.prog 50 #[.pointer (some ⟨w.heap.size, 0, none⟩), .int .i64 1] W (RdPost 103 W w.heap.size s (.int .u64 (big (dTake s.data.toList at_ 0 1).1)) (dTake s.data.toList at_ 0 1).2) := fun (W : World) h => qlittle_any 1 (by decide) h hs hat
        have hta := dTake_at (l := s.data.toList) (at_ := at_) (err := 0) (n := 1) hat
        have B0 := Lib.hid (qb_new Q.out (.int .i64 0) (.string ⟨#[]⟩) (.string ⟨#[]⟩))
        have hQz := Q.out.size
        rcases rdC_ways s.data.toList at_ with ⟨q1, ht, he, hC⟩ | ⟨c, a1, ht, ⟨hk, hC⟩ | ⟨hk, hC⟩ | ⟨hk, hC⟩⟩
        · obtain ⟨q1, q2⟩ := q1
          rw [ht] at lt hta
          have LT : Hid (∀ W, RdAt 103 W w.heap.size s at_ 0 → Calls Tryz.prog 50 #[.pointer (some ⟨w.heap.size, 0, none⟩), .int .i64 1] W (RdPost 103 W w.heap.size s (.int .u64 0) (q1, q2))) := fun W h => by
            have := lt W h
            simp only [big_nil] at this
            exact this
          have T1 : Hid (∀ W, RdAt 103 W w.heap.size s q1 q2 → Calls Tryz.prog 53 #[.pointer (some ⟨w.heap.size, 0, none⟩), .int .i64 200] W (RdPost 103 W w.heap.size s (.string ⟨#[]⟩) (q1, q2))) := fun W h => text_bad 200 (by decide) h hs hta he
          have z1 : (q2 == 0) = false := by simpa using he
          rw [hC] at hrd hsc hac
          have HRD := Lib.hid hrd
          have HSC := Lib.hid hsc
          have HAT := Lib.hid hac
          clear hrd hsc hac hC
          go_wp2_with (first
            | (go_at_call 50; (with_reducible refine (LT.out _ B0.out.q.rd).mono ?_); rintro e w5 ⟨rfl, h5, g5⟩
               have B1 := Lib.hid (qb_grown B0.out h5 g5)
               have B2 := Lib.hid (qb_set0 B1.out (.int .i64 0))
               obtain ⟨x0, x1, x2, x3⟩ := qb_cells B1.out
               obtain ⟨y0, y1, y2, y3⟩ := qb_cells B2.out
               have y4 := qs_bad B2.out.q
               clear h5 g5)
            | (go_at_call 53; (with_reducible refine (T1.out _ B2.out.q.rd).mono ?_); rintro e w7 ⟨rfl, h7, g7⟩
               have B4 := Lib.hid (qb_grown B2.out h7 g7)
               have B5 := Lib.hid (qb_set1 B4.out (.string ⟨#[]⟩))
               obtain ⟨v0, v1, v2, v3⟩ := qb_cells B4.out
               obtain ⟨z0, z1, z2, z3⟩ := qb_cells B5.out
               clear h7 g7)
            | (at_builtin
               refine wpList_append_own _ rfl (.tmp 65) (.tmp 67) 30 rfl (w.heap.size + 1) 63 i0 _ 3 40 Tryz.underlying30 HI.out.1 HI.out.2.1 HI.out.2.2.1 HI.out.2.2.2 rfl (by decide) (.slice A0 l.length k0) l.length (cCells l) rfl (B5.out.q.own.alloc _) ⟨_, 0, none⟩ 1 1 [.int .i64 0, .string ⟨#[]⟩, .string ⟨#[]⟩] rfl rfl (news3k _ _ (by simp [World.setCell]) _ _ _ _) (by simp [Value.oneCell']) (by unfold maxLen; omega) (by omega) (by have := B5.out.q.size; rw [World.size_alloc]; omega) ?_
               intro v9 w9 hown hgr _
               have Q9 := Lib.hid (qs_put B5.out.q (c := ⟨0, ⟨#[]⟩, ⟨#[]⟩⟩) hown hgr)
               clear hown hgr))
          go_roundw
          case rel => exact ⟨i + 1, l ++ [⟨0, ⟨#[]⟩, ⟨#[]⟩⟩], q1, q2, by go_num, by omega, Q9.out, HAT.out, by rw [show n0 - (i + 1) = m by omega]; exact HRD.out, fun _ => by rw [List.length_append, List.length_singleton]; omega, (fun p hp => by
              rcases List.mem_append.1 hp with hp | hp
              · exact hsm.out p hp
              · rw [List.mem_singleton.1 hp]; exact HSC.out), by rw [List.length_append, List.length_singleton]; omega⟩
          case measure => simp [intOf]; omega
        · rw [ht] at lt hta
          have hb := c.toNat_lt
          have hwc : IntKind.i64.wrap (c.toNat : Int) = (c.toNat : Int) := IntWalk.i64_in _ (by omega)
          have LT : Hid (∀ W, RdAt 103 W w.heap.size s at_ 0 → Calls Tryz.prog 50 #[.pointer (some ⟨w.heap.size, 0, none⟩), .int .i64 1] W (RdPost 103 W w.heap.size s (.int .u64 (c.toNat : Int)) (a1, 0))) := fun W h => by
            have := lt W h
            rw [big_one] at this
            exact this
          have FL : Hid (∀ W, RdAt 103 W w.heap.size s a1 0 → Calls Tryz.prog 52 #[.pointer (some ⟨w.heap.size, 0, none⟩), .int .i64 11] W (RdPost 103 W w.heap.size s (.tuple #[]) (a1, 11))) := fun W h => by
            have := qfail_any 11 h
            rw [dFail_ok] at this
            exact this
          have T1 : Hid (∀ W, RdAt 103 W w.heap.size s a1 11 → Calls Tryz.prog 53 #[.pointer (some ⟨w.heap.size, 0, none⟩), .int .i64 200] W (RdPost 103 W w.heap.size s (.string ⟨#[]⟩) (a1, 11))) := fun W h => text_bad 200 (by decide) h hs hta (by decide)
          rw [hC] at hrd hsc hac
          have HRD := Lib.hid hrd
          have HSC := Lib.hid hsc
          have HAT := Lib.hid hac
          clear hrd hsc hac hC
          generalize hck : (c.toNat : Int) = ck at *
          have z1 : (ck == 1) = false := by simp; omega
          have z2 : (ck == 2) = false := by simp; omega
          have z3 : (ck != 1) = true := by simp [bne, z1]
          have z4 : (ck != 2) = true := by simp [bne, z2]
          have z5 : ¬ ck = 1 := by omega
          have z6 : ¬ ck = 2 := by omega
          go_wp2_with (first
            | (go_at_call 50; (with_reducible refine (LT.out _ B0.out.q.rd).mono ?_); rintro e w5 ⟨rfl, h5, g5⟩
               have B1 := Lib.hid (qb_grown B0.out h5 g5)
               have B2 := Lib.hid (qb_set0 B1.out (.int .i64 ck))
               obtain ⟨x0, x1, x2, x3⟩ := qb_cells B1.out
               obtain ⟨y0, y1, y2, y3⟩ := qb_cells B2.out
               have y4 := qs_bad B2.out.q
               clear h5 g5)
            | (go_at_call 52; (with_reducible refine (FL.out _ B2.out.q.rd).mono ?_); rintro e w6 ⟨rfl, h6, g6⟩
               have B3 := Lib.hid (qb_grown B2.out h6 g6)
               obtain ⟨u0, u1, u2, u3⟩ := qb_cells B3.out
               clear h6 g6)
            | (go_at_call 53; (with_reducible refine (T1.out _ B3.out.q.rd).mono ?_); rintro e w7 ⟨rfl, h7, g7⟩
               have B4 := Lib.hid (qb_grown B3.out h7 g7)
               have B5 := Lib.hid (qb_set1 B4.out (.string ⟨#[]⟩))
               obtain ⟨v0, v1, v2, v3⟩ := qb_cells B4.out
               obtain ⟨z0, z1, z2, z3⟩ := qb_cells B5.out
               clear h7 g7)
            | (at_builtin
               refine wpList_append_own _ rfl (.tmp 65) (.tmp 67) 30 rfl (w.heap.size + 1) 63 i0 _ 3 40 Tryz.underlying30 HI.out.1 HI.out.2.1 HI.out.2.2.1 HI.out.2.2.2 rfl (by decide) (.slice A0 l.length k0) l.length (cCells l) rfl (B5.out.q.own.alloc _) ⟨_, 0, none⟩ 1 1 [.int .i64 ck, .string ⟨#[]⟩, .string ⟨#[]⟩] rfl rfl (news3k _ _ (by simp [World.setCell]) _ _ _ _) (by simp [Value.oneCell']) (by unfold maxLen; omega) (by omega) (by have := B5.out.q.size; rw [World.size_alloc]; omega) ?_
               intro v9 w9 hown hgr _
               have Q9 := Lib.hid (qs_put B5.out.q (c := ⟨ck, ⟨#[]⟩, ⟨#[]⟩⟩) hown hgr)
               clear hown hgr))
          go_roundw
          case rel => exact ⟨i + 1, l ++ [⟨ck, ⟨#[]⟩, ⟨#[]⟩⟩], a1, 11, by go_num, by omega, Q9.out, HAT.out, by rw [show n0 - (i + 1) = m by omega]; exact HRD.out, fun _ => by rw [List.length_append, List.length_singleton]; omega, (fun p hp => by
              rcases List.mem_append.1 hp with hp | hp
              · exact hsm.out p hp
              · rw [List.mem_singleton.1 hp]; exact HSC.out), by rw [List.length_append, List.length_singleton]; omega⟩
          case measure => simp [intOf]; omega
        · rw [ht] at lt hta
          have LT : Hid (∀ W, RdAt 103 W w.heap.size s at_ 0 → Calls Tryz.prog 50 #[.pointer (some ⟨w.heap.size, 0, none⟩), .int .i64 1] W (RdPost 103 W w.heap.size s (.int .u64 1) (a1, 0))) := fun W h => by
            have := lt W h
            rw [big_one, hk] at this
            exact this
          have T1 := Lib.hid fun (W : World) (h : RdAt 103 W w.heap.size s a1 0) => qtext_any 200 (by decide) h hs hta
          have htb := dText_at (l := s.data.toList) (at_ := a1) (err := 0) (most := 200) hta
          have T2 := Lib.hid fun (W : World) (h : RdAt 103 W w.heap.size s (dText s.data.toList a1 0 200).2.1 (dText s.data.toList a1 0 200).2.2) => qtext_any 4096 (by decide) h hs htb
          rw [hC] at hrd hsc hac
          have HRD := Lib.hid hrd
          have HSC := Lib.hid hsc
          have HAT := Lib.hid hac
          clear hrd hsc hac hC
          generalize dText s.data.toList a1 0 200 = d1 at *
          obtain ⟨tx1, b1, b2⟩ := d1
          simp only at *
          generalize bs tx1 = ky at *
          generalize dText s.data.toList b1 b2 4096 = d2 at *
          obtain ⟨tx2, d1, d2⟩ := d2
          simp only at *
          generalize bs tx2 = vl at *
          go_wp2_with (first
            | (go_at_call 53; have Z := B5; (with_reducible refine (T2.out _ B5.out.q.rd).mono ?_); rintro e w8 ⟨rfl, h8, g8⟩
               have B6 := Lib.hid (qb_grown B5.out h8 g8)
               have B7 := Lib.hid (qb_set2 B6.out (.string vl))
               obtain ⟨r0, r1, r2, r3⟩ := qb_cells B6.out
               obtain ⟨s0, s1, s2, s3⟩ := qb_cells B7.out
               clear h8 g8)
            | (go_at_call 50; (with_reducible refine (LT.out _ B0.out.q.rd).mono ?_); rintro e w5 ⟨rfl, h5, g5⟩
               have B1 := Lib.hid (qb_grown B0.out h5 g5)
               have B2 := Lib.hid (qb_set0 B1.out (.int .i64 1))
               obtain ⟨x0, x1, x2, x3⟩ := qb_cells B1.out
               obtain ⟨y0, y1, y2, y3⟩ := qb_cells B2.out
               have y4 := qs_bad B2.out.q
               clear h5 g5)
            | (go_at_call 53; (with_reducible refine (T1.out _ B2.out.q.rd).mono ?_); rintro e w7 ⟨rfl, h7, g7⟩
               have B4 := Lib.hid (qb_grown B2.out h7 g7)
               have B5 := Lib.hid (qb_set1 B4.out (.string ky))
               obtain ⟨v0, v1, v2, v3⟩ := qb_cells B4.out
               obtain ⟨z0, z1, z2, z3⟩ := qb_cells B5.out
               clear h7 g7)
            | (at_builtin
               refine wpList_append_own _ rfl (.tmp 65) (.tmp 67) 30 rfl (w.heap.size + 1) 63 i0 _ 3 40 Tryz.underlying30 HI.out.1 HI.out.2.1 HI.out.2.2.1 HI.out.2.2.2 rfl (by decide) (.slice A0 l.length k0) l.length (cCells l) rfl (B7.out.q.own.alloc _) ⟨_, 0, none⟩ 1 1 [.int .i64 1, .string ky, .string vl] rfl rfl (news3k _ _ (by simp [World.setCell]) _ _ _ _) (by simp [Value.oneCell']) (by unfold maxLen; omega) (by omega) (by have := B7.out.q.size; rw [World.size_alloc]; omega) ?_
               intro v9 w9 hown hgr _
               have Q9 := Lib.hid (qs_put B7.out.q (c := ⟨1, ky, vl⟩) hown hgr)
               clear hown hgr))
          go_roundw
          case rel => exact ⟨i + 1, l ++ [⟨1, ky, vl⟩], d1, d2, by go_num, by omega, Q9.out, HAT.out, by rw [show n0 - (i + 1) = m by omega]; exact HRD.out, fun _ => by rw [List.length_append, List.length_singleton]; omega, (fun p hp => by
              rcases List.mem_append.1 hp with hp | hp
              · exact hsm.out p hp
              · rw [List.mem_singleton.1 hp]; exact HSC.out), by rw [List.length_append, List.length_singleton]; omega⟩
          case measure => simp [intOf]; omega
        · rw [ht] at lt hta
          have LT : Hid (∀ W, RdAt 103 W w.heap.size s at_ 0 → Calls Tryz.prog 50 #[.pointer (some ⟨w.heap.size, 0, none⟩), .int .i64 1] W (RdPost 103 W w.heap.size s (.int .u64 2) (a1, 0))) := fun W h => by
            have := lt W h
            rw [big_one, hk] at this
            exact this
          have T1 := Lib.hid fun (W : World) (h : RdAt 103 W w.heap.size s a1 0) => qtext_any 200 (by decide) h hs hta
          have htb := dText_at (l := s.data.toList) (at_ := a1) (err := 0) (most := 200) hta
          rw [hC] at hrd hsc hac
          have HRD := Lib.hid hrd
          have HSC := Lib.hid hsc
          have HAT := Lib.hid hac
          clear hrd hsc hac hC
          generalize dText s.data.toList a1 0 200 = d1 at *
          obtain ⟨tx1, b1, b2⟩ := d1
          simp only at *
          generalize bs tx1 = ky at *
          go_wp2_with (first
            | (go_at_call 50; (with_reducible refine (LT.out _ B0.out.q.rd).mono ?_); rintro e w5 ⟨rfl, h5, g5⟩
               have B1 := Lib.hid (qb_grown B0.out h5 g5)
               have B2 := Lib.hid (qb_set0 B1.out (.int .i64 2))
               obtain ⟨x0, x1, x2, x3⟩ := qb_cells B1.out
               obtain ⟨y0, y1, y2, y3⟩ := qb_cells B2.out
               have y4 := qs_bad B2.out.q
               clear h5 g5)
            | (go_at_call 53; (with_reducible refine (T1.out _ B2.out.q.rd).mono ?_); rintro e w7 ⟨rfl, h7, g7⟩
               have B4 := Lib.hid (qb_grown B2.out h7 g7)
               have B5 := Lib.hid (qb_set1 B4.out (.string ky))
               obtain ⟨v0, v1, v2, v3⟩ := qb_cells B4.out
               obtain ⟨z0, z1, z2, z3⟩ := qb_cells B5.out
               clear h7 g7)
            | (at_builtin
               refine wpList_append_own _ rfl (.tmp 65) (.tmp 67) 30 rfl (w.heap.size + 1) 63 i0 _ 3 40 Tryz.underlying30 HI.out.1 HI.out.2.1 HI.out.2.2.1 HI.out.2.2.2 rfl (by decide) (.slice A0 l.length k0) l.length (cCells l) rfl (B5.out.q.own.alloc _) ⟨_, 0, none⟩ 1 1 [.int .i64 2, .string ky, .string ⟨#[]⟩] rfl rfl (news3k _ _ (by simp [World.setCell]) _ _ _ _) (by simp [Value.oneCell']) (by unfold maxLen; omega) (by omega) (by have := B5.out.q.size; rw [World.size_alloc]; omega) ?_
               intro v9 w9 hown hgr _
               have Q9 := Lib.hid (qs_put B5.out.q (c := ⟨2, ky, ⟨#[]⟩⟩) hown hgr)
               clear hown hgr))
          go_roundw
          case rel => exact ⟨i + 1, l ++ [⟨2, ky, ⟨#[]⟩⟩], b1, b2, by go_num, by omega, Q9.out, HAT.out, by rw [show n0 - (i + 1) = m by omega]; exact HRD.out, fun _ => by rw [List.length_append, List.length_singleton]; omega, (fun p hp => by
              rcases List.mem_append.1 hp with hp | hp
              · exact hsm.out p hp
              · rw [List.mem_singleton.1 hp]; exact HSC.out), by rw [List.length_append, List.length_singleton]; omega⟩
          case measure => simp [intOf]; omega
      · have hpr : pRows s.data.toList = (l, at_, err) := by
          rw [← hrd]
          by_cases hn : i < n0
          · exact rdL_bad (fun h => hgo ⟨hn, h⟩)
          · rw [show n0 - i = 0 by omega]; rfl
        have hE : pErr s.data.toList = dEnd s.size at_ err := by unfold pErr; rw [hpr]; rfl
        have EN := Lib.hid fun (W : World) (h : RdAt 103 W w.heap.size s at_ err) => qend_any h hs hat
        have hpa : parse s.data.toList = if dEnd s.size at_ err = 0 then (if chkB sq l = 0 then (l, sq, 0) else ([], 0, chkB sq l)) else ([], 0, dEnd s.size at_ err) := by unfold parse; rw [hE, hpr, HSQ.out]
        replace hpa := Lib.hid hpa
        obtain ⟨A, c, hv, RA⟩ := crow_of_owns Q.out.own
        injection hv with hv1 _ hv3
        subst hv1 hv3
        have CK := Lib.hid fun (k : Nat) => qcheck_any sq hq (c := k0) (w := wr.drewN k) (A := A0) (l := l) RA (by omega) hsm.out
        have PD := Lib.hid fun (k : Nat) => qs_below Q.out (below_drewN (Below.refl _ wr) k)
        have hor : (i = n0) ∨ (i < n0 ∧ (err == 0) = false) := by
          by_cases hn : i < n0
          · exact .inr ⟨hn, by simpa using fun h => hgo ⟨hn, h⟩⟩
          · exact .inl (by omega)
        clear hgo hrd hpr hE RA hle
        generalize dEnd s.size at_ err = E at EN hpa
        generalize hZ : chkB sq l = Z at CK hpa
        clear hZ
        by_cases e0 : E = 0
        · subst e0
          by_cases z0 : Z = 0
          · subst z0
            have HP : Hid (parse s.data.toList = (l, sq, 0)) := hpa.out.trans ((if_pos rfl).trans (if_pos rfl))
            clear hpa
            rcases hor with rfl | ⟨hn, he⟩
            all_goals
              go_wp2_with (first
                | (go_at_call 54; (with_reducible refine (EN.out _ Q.out.rd).mono ?_); rintro e w6 ⟨rfl, k, rfl⟩; have PK := Lib.hid (PD.out k))
                | (go_at_call 55; (with_reducible refine (CK.out _).mono ?_); rintro e w7 ⟨rfl, b7⟩; have P7 := Lib.hid (qs_below PK.out b7); clear b7))
              go_ret3
              exact ⟨_, by rw [HP.out]; rfl, by rw [HP.out]; exact owns_base P7.out.own (by omega), P7.out.below⟩
          · have z1 : (Z == 0) = false := by simpa using z0
            have z2 : (Z != 0) = true := by simp [bne, z1]
            have HP : Hid (parse s.data.toList = ([], 0, Z)) := hpa.out.trans ((if_pos rfl).trans (if_neg z0))
            clear z0 hpa
            rcases hor with rfl | ⟨hn, he⟩
            all_goals
              go_wp2_with (first
                | (go_at_call 54; (with_reducible refine (EN.out _ Q.out.rd).mono ?_); rintro e w6 ⟨rfl, k, rfl⟩; have PK := Lib.hid (PD.out k))
                | (go_at_call 55; (with_reducible refine (CK.out _).mono ?_); rintro e w7 ⟨rfl, b7⟩; have P7 := Lib.hid (qs_below PK.out b7); clear b7))
              go_ret3
              exact ⟨_, by rw [HP.out]; rfl, by rw [HP.out]; exact World.ownsRow_nil _ _ _ _, P7.out.below⟩
        · have z1 : (E == 0) = false := by simpa using e0
          have z2 : (E != 0) = true := by simp [bne, z1]
          have HP : Hid (parse s.data.toList = ([], 0, E)) := hpa.out.trans (if_neg e0)
          clear e0 hpa
          rcases hor with rfl | ⟨hn, he⟩
          all_goals
            go_wp2_with (first
              | (go_at_call 54; (with_reducible refine (EN.out _ Q.out.rd).mono ?_); rintro e w6 ⟨rfl, k, rfl⟩; have PK := Lib.hid (PD.out k)))
            go_ret3
            exact ⟨_, by rw [HP.out]; rfl, by rw [HP.out]; exact World.ownsRow_nil _ _ _ _, PK.out.below⟩
end Go.Proofs.YtdkgieaanpfhcaaGreatDoor.Wa
