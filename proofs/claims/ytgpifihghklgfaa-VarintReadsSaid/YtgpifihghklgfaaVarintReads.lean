/-
  The law VarintReads returns true at every input. No condition.
-/
import Derived.Test.YtgpifihghklgfaaViAwake
import Derived.Test.YtgpifihghklgfaaViS
import Derived.Deep.SlicePairs
namespace Go.Proofs.Ytgpifihghklgfaa.varintReads
open Go.ChangeShapes Go.WideShapes Go.ChangeAt Go.RowKit
open Go.ChangeMaps (open_string)
open Go.Proofs.Ytgpifihghklgfaa
open Vi

theorem block_add (a : Addr) (n : Nat) : (a.add n).block = a.block := by unfold Addr.add; split <;> rfl
theorem add_one (x : Addr) : x.add 1 = ⟨x.block, x.off + 1, none⟩ := rfl
theorem rd_alloc {t : TypeId} {w : World} {a : Nat} {s : ByteArray} {at_ : Nat} {err : Int} (h : RdAt t w a s at_ err) (o : Obj) : RdAt t (w.alloc o) a s at_ err := by
  unfold RdAt; rw [Below.heap_alloc w o a (rd_lt h)]; exact h
def RJ (w : World) (s : ByteArray) (n ra qa : Nat) (i : Value) (wr : World) : Prop :=
  ∃ (k at_ : Nat) (err : Int), i = .int .i64 k ∧ k ≤ n ∧ at_ ≤ s.size ∧ RdAt 56 wr ra s at_ err ∧ RdAt 37 wr qa s at_ err ∧ Below w.heap.size w wr
theorem quiet_some {P : Program} {f : FuncId} {args : Array Value} {w : World} {n : Nat} {v : Value}
    (h : Calls P f args (w.drewN n) fun e w' => e = .returned v ∧ ∃ k, w' = (w.drewN n).drewN k) : Calls P f args (w.drewN n) fun e w'' => e = .returned v ∧ ∃ m, w'' = w.drewN m :=
  h.mono fun _ _ ⟨he, k, hm⟩ => ⟨he, n + k, by rw [hm, World.drewN_drewN]⟩
theorem tmod8 (d : Int) : d.tmod 8 = 0 ∨ d.tmod 8 = 1 ∨ d.tmod 8 = -1 ∨ d.tmod 8 = 2 ∨ d.tmod 8 = -2 ∨ d.tmod 8 = 3 ∨ d.tmod 8 = -3 ∨ d.tmod 8 = 4 ∨ d.tmod 8 = -4 ∨ d.tmod 8 = 5 ∨ d.tmod 8 = -5 ∨ d.tmod 8 = 6 ∨ d.tmod 8 = -6 ∨ d.tmod 8 = 7 ∨ d.tmod 8 = -7 := by
  cases d with
  | ofNat m => have : (Int.ofNat m).tmod 8 = ((m % 8 : Nat) : Int) := rfl; omega
  | negSucc m => have : (Int.negSucc m).tmod 8 = -(((m + 1) % 8 : Nat) : Int) := rfl; omega
theorem grown_drew (w : World) (row : Option Nat) : w.grownBy w.drew row := ⟨rfl, rfl, rfl, Nat.le_refl _, fun _ _ _ => rfl⟩
theorem cell_kept {w w' : World} {row : Option Nat} {p : Addr} {v : Value} (h : w.cell? p = some v) (hg : w.grownBy w' row) (hp : p.block < w.heap.size) (hne : some p.block ≠ row) : w'.cell? p = some v := by
  rw [World.cell?_of_block (hg.block p.block hp hne)]; exact h
theorem rend_any {w : World} {a : Nat} {s : ByteArray} {at_ : Nat} {err : Int} (h : RdAt 56 w a s at_ err) (hs : s.size ≤ 1000000) (ha : at_ ≤ s.size) :
    Calls Try.prog 31 #[.pointer (some ⟨a, 0, none⟩)] w (RdPost 56 w a s (.int .i64 (dEnd s.size at_ err)) (at_, err)) :=
  (end_any h hs ha).mono fun _ _ ⟨h1, k, h2⟩ => ⟨h1, by rw [h2]; exact h, by rw [h2]; exact grown_drewN _ _ _⟩
theorem qrend_any {w : World} {a : Nat} {s : ByteArray} {at_ : Nat} {err : Int} (h : RdAt 37 w a s at_ err) (hs : s.size ≤ 1000000) (ha : at_ ≤ s.size) :
    Calls Try.prog 32 #[.pointer (some ⟨a, 0, none⟩)] w (RdPost 37 w a s (.int .i64 (dEnd s.size at_ err)) (at_, err)) :=
  (qend_any h hs ha).mono fun _ _ ⟨h1, k, h2⟩ => ⟨h1, by rw [h2]; exact h, by rw [h2]; exact grown_drewN _ _ _⟩
theorem qlittle4 {w : World} {a : Nat} {s : ByteArray} {at_ : Nat} {err : Int} (h : RdAt 37 w a s at_ err) (hs : s.size ≤ 1000000) (ha : at_ ≤ s.size) :
    Calls Try.prog 25 #[.pointer (some ⟨a, 0, none⟩), .int .i64 4] w (RdPost 37 w a s (.int .u64 (big (dTake s.data.toList at_ err 4).1)) (dTake s.data.toList at_ err 4).2) := qlittle_any 4 (by decide) h hs ha
theorem qlittle8 {w : World} {a : Nat} {s : ByteArray} {at_ : Nat} {err : Int} (h : RdAt 37 w a s at_ err) (hs : s.size ≤ 1000000) (ha : at_ ≤ s.size) :
    Calls Try.prog 25 #[.pointer (some ⟨a, 0, none⟩), .int .i64 8] w (RdPost 37 w a s (.int .u64 (big (dTake s.data.toList at_ err 8).1)) (dTake s.data.toList at_ err 8).2) := qlittle_any 8 (by decide) h hs ha
theorem fixed_lt {l : List UInt8} {at_ : Nat} {err : Int} : big (dTake l at_ err 4).1 < 4294967296 := by
  refine Nat.lt_of_lt_of_le (big_lt _) (Nat.le_trans (Nat.pow_le_pow_right (by decide) (show _ ≤ 4 from ?_)) (by decide))
  by_cases he : err = 0
  · subst he
    by_cases h2 : (4 : Int) < 0 ∨ (l.length : Int) - at_ < 4
    · rw [dTake_short h2]; simp
    · rw [dTake_ok (by omega) (by omega)]; simp; omega
  · rw [dTake_bad he]; simp
set_option maxRecDepth 100000 in
set_option maxHeartbeats 8000000 in
theorem walk_main (s : ByteArray) (hs : s.size ≤ 2000) (A : Addr) (n c : Nat) (hn : n ≤ 50) (hc : n ≤ c) (hcm : c ≤ maxLen) (w : World) (hbw : 0 < n → A.block < w.heap.size) (D N : Nat → Int)
    (hD : ∀ i, i < n → w.cell? (A.add (i * 2)) = some (.int .i64 (D i))) (hN : ∀ i, i < n → w.cell? (A.add (i * 2 + 1)) = some (.int .i64 (N i)))
    (hDb : ∀ i, i < n → -9223372036854775808 ≤ D i ∧ D i ≤ 9223372036854775807) (hNb : ∀ i, i < n → -9223372036854775808 ≤ N i ∧ N i ≤ 9223372036854775807) :
    Calls Try.prog 4 #[.string s, .slice (some A) n c] w fun e w' => e = .returned (.bool true) ∧ Below w.heap.size w w' := by
  have HD := Lib.hid hD
  have HN := Lib.hid hN
  have HDb := Lib.hid hDb
  have HNb := Lib.hid hNb
  have hs6 : Hid (s.size ≤ 1000000) := by show _ ≤ _; omega
  clear hD hN hDb hNb
  unfold maxLen at hcm
  go_enter Try.func4, Try.ntmps4
  go_wp2_with (first
    | (go_at_call 8; refine (awake_any _).mono ?_; rintro e w1 ⟨rfl, b1⟩)
    | (go_at_call 19; refine (over_any _ _).mono ?_; rintro e w2 ⟨rfl, h2, b2⟩; have H2 := Lib.hid h2; have hz2 : w1.heap.size < w2.heap.size := rd_lt h2; clear h2))
  go_loopw [27] (RJ w s n w1.heap.size w2.heap.size) (fun i _ => n - (intOf i).toNat)
  case atStart =>
    exact ⟨0, 0, 0, rfl, by omega, by omega, rd_alloc H2.out _, heap_alloc_new _ _, (b1.trans (b2.mono b1.size)).alloc (by have := b1.size; omega) _⟩
  case round =>
    obtain ⟨k, at_, err, rfl, hk, hat, hT, hQ, hb⟩ := hrel
    by_cases hlt : k < n
    · have x0 : wr.cell? (A.add (k * 2)) = some (.int .i64 (D k)) := (hb.cell (p := A.add (k * 2)) (by rw [block_add]; exact hbw (by omega))).trans (HD.out k hlt)
      have x1 : wr.cell? ⟨(A.add (k * 2)).block, (A.add (k * 2)).off + 1, none⟩ = some (.int .i64 (N k)) := by
        rw [← add_one, Go.Deep.add_add]
        exact (hb.cell (p := A.add (k * 2 + 1)) (by rw [block_add]; exact hbw (by omega))).trans (HN.out k hlt)
      obtain ⟨d1, d2⟩ := HDb.out k hlt
      obtain ⟨n1, n2⟩ := HNb.out k hlt
      generalize D k = dk at x0 d1 d2
      generalize N k = nk at x1 n1 n2
      have HT := Lib.hid (rd_alloc hT (.cells #[.int .i64 dk, .int .i64 nk] 39))
      have HQ := Lib.hid (rd_alloc hQ (.cells #[.int .i64 dk, .int .i64 nk] 39))
      have hb2 := hb.alloc hb.size (.cells #[.int .i64 dk, .int .i64 nk] 39)
      have ra0 := Lib.hid b1.size
      have qa0 : Hid (w.heap.size ≤ w2.heap.size) := by show _ ≤ _; have := b1.size; omega
      have hne1 : Hid (some w2.heap.size ≠ some w1.heap.size) := by show _ ≠ _; simp; omega
      have hne2 : Hid (some w1.heap.size ≠ some w2.heap.size) := by show _ ≠ _; simp; omega
      have hat := Lib.hid hat
      have hra := rd_lt hT
      have hqa := rd_lt hQ
      have hA : Hid (wr.heap.size < (wr.alloc (.cells #[.int .i64 dk, .int .i64 nk] 39)).heap.size) := by show _ < _; simp
      have hA1 : Hid (some wr.heap.size ≠ some w1.heap.size) := by show _ ≠ _; simp; omega
      have hA2 : Hid (some wr.heap.size ≠ some w2.heap.size) := by show _ ≠ _; simp; omega
      clear hT hQ hra hqa
      by_cases hmv : dk.tmod 8 = 0
      · skip
        have hm : dk.tmod 8 = 0 := hmv
        go_wp2_with (first
          | (go_at_call 33; (with_reducible refine (rnum_any HT.out hs6.out hat.out).mono ?_); rintro e w3 ⟨rfl, h3, g3⟩; have H3 := Lib.hid h3; have Q3 := Lib.hid (rd_kept HQ.out g3 hne1.out); have hb3 := below_grown hb2 g3 hb2.size ra0.out; clear h3)
          | (go_at_call 34; (with_reducible refine (qnum_any Q3.out hs6.out hat.out).mono ?_); rintro e w4 ⟨rfl, h4, g4⟩; have Q4 := Lib.hid h4; have H4 := Lib.hid (rd_kept H3.out g4 hne2.out); have hb4 := below_grown hb3 g4 hb3.size qa0.out; clear h4))
        obtain ⟨at2, err2, h5, q5, hat2⟩ : ∃ (at2 : Nat) (err2 : Int), RdAt 56 w4 w1.heap.size s at2 err2 ∧ RdAt 37 w4 w2.heap.size s at2 err2 ∧ at2 ≤ s.size := ⟨_, _, H4.out, Q4.out, dNum_at hat.out⟩
        have y1 := rd1 q5
        have y2 := rd2 q5
        have H5 := Lib.hid h5
        have Q5 := Lib.hid q5
        have g1 : IntKind.i64.wrap ((s.size : Int) - at2) = (s.size : Int) - at2 := IntWalk.i64_in _ (by omega)
        clear h5 q5
        go_quiet (first
          | (go_at_call 35; exact quiet_eq (at_any (rd_drewN H5.out _)))
          | (go_at_call 36; exact quiet_some (left_any (rd_drewN H5.out _) hs6.out hat2))
          | (go_at_call 37; exact quiet_eq (err_any (rd_drewN H5.out _))))
        clear g1
        go_wp2
        go_roundw
        case rel => exact ⟨k + 1, at2, err2, by go_num, by omega, hat2, H5.out, Q5.out, below_drewN hb4 _⟩
        case measure => simp [intOf]; omega
      by_cases hmv : dk.tmod 8 = 1
      · skip
        have hm : dk.tmod 8 = 1 := hmv
        go_wp2_with (first
          | (go_at_call 20; (with_reducible refine (rsigned_any HT.out hs6.out hat.out).mono ?_); rintro e w3 ⟨rfl, h3, g3⟩; have H3 := Lib.hid h3; have Q3 := Lib.hid (rd_kept HQ.out g3 hne1.out); have hb3 := below_grown hb2 g3 hb2.size ra0.out; clear h3)
          | (go_at_call 21; (with_reducible refine (qsigned_any Q3.out hs6.out hat.out).mono ?_); rintro e w4 ⟨rfl, h4, g4⟩; have Q4 := Lib.hid h4; have H4 := Lib.hid (rd_kept H3.out g4 hne2.out); have hb4 := below_grown hb3 g4 hb3.size qa0.out; clear h4))
        obtain ⟨at2, err2, h5, q5, hat2⟩ : ∃ (at2 : Nat) (err2 : Int), RdAt 56 w4 w1.heap.size s at2 err2 ∧ RdAt 37 w4 w2.heap.size s at2 err2 ∧ at2 ≤ s.size := ⟨_, _, H4.out, Q4.out, dNum_at hat.out⟩
        have y1 := rd1 q5
        have y2 := rd2 q5
        have H5 := Lib.hid h5
        have Q5 := Lib.hid q5
        have g1 : IntKind.i64.wrap ((s.size : Int) - at2) = (s.size : Int) - at2 := IntWalk.i64_in _ (by omega)
        clear h5 q5
        go_quiet (first
          | (go_at_call 35; exact quiet_eq (at_any (rd_drewN H5.out _)))
          | (go_at_call 36; exact quiet_some (left_any (rd_drewN H5.out _) hs6.out hat2))
          | (go_at_call 37; exact quiet_eq (err_any (rd_drewN H5.out _))))
        clear g1
        go_wp2
        go_roundw
        case rel => exact ⟨k + 1, at2, err2, by go_num, by omega, hat2, H5.out, Q5.out, below_drewN hb4 _⟩
        case measure => simp [intOf]; omega
      by_cases hmv : dk.tmod 8 = (-1)
      · skip
        have hm : dk.tmod 8 = (-1) := hmv
        go_wp2_with (first
          | (go_at_call 20; (with_reducible refine (rsigned_any HT.out hs6.out hat.out).mono ?_); rintro e w3 ⟨rfl, h3, g3⟩; have H3 := Lib.hid h3; have Q3 := Lib.hid (rd_kept HQ.out g3 hne1.out); have hb3 := below_grown hb2 g3 hb2.size ra0.out; clear h3)
          | (go_at_call 21; (with_reducible refine (qsigned_any Q3.out hs6.out hat.out).mono ?_); rintro e w4 ⟨rfl, h4, g4⟩; have Q4 := Lib.hid h4; have H4 := Lib.hid (rd_kept H3.out g4 hne2.out); have hb4 := below_grown hb3 g4 hb3.size qa0.out; clear h4))
        obtain ⟨at2, err2, h5, q5, hat2⟩ : ∃ (at2 : Nat) (err2 : Int), RdAt 56 w4 w1.heap.size s at2 err2 ∧ RdAt 37 w4 w2.heap.size s at2 err2 ∧ at2 ≤ s.size := ⟨_, _, H4.out, Q4.out, dNum_at hat.out⟩
        have y1 := rd1 q5
        have y2 := rd2 q5
        have H5 := Lib.hid h5
        have Q5 := Lib.hid q5
        have g1 : IntKind.i64.wrap ((s.size : Int) - at2) = (s.size : Int) - at2 := IntWalk.i64_in _ (by omega)
        clear h5 q5
        go_quiet (first
          | (go_at_call 35; exact quiet_eq (at_any (rd_drewN H5.out _)))
          | (go_at_call 36; exact quiet_some (left_any (rd_drewN H5.out _) hs6.out hat2))
          | (go_at_call 37; exact quiet_eq (err_any (rd_drewN H5.out _))))
        clear g1
        go_wp2
        go_roundw
        case rel => exact ⟨k + 1, at2, err2, by go_num, by omega, hat2, H5.out, Q5.out, below_drewN hb4 _⟩
        case measure => simp [intOf]; omega
      by_cases hmv : dk.tmod 8 = 2
      · skip
        have hm : dk.tmod 8 = 2 := hmv
        go_wp2
        have cA : (wr.alloc (.cells #[.int .i64 dk, .int .i64 nk] 39)).cell? ⟨wr.heap.size, 1, none⟩ = some (.int .i64 nk) := by simp
        go_region_held3 (fun wx => wx.cell? ⟨wr.heap.size, 1, none⟩ = some (.int .i64 nk)) (first | exact c4 | exact c3 | exact cA)
          (first
            | (go_at_call 22; (refine (rtext_any nk n2 (by exact HT.out) hs6.out hat.out).mono ?_); rintro e w3 ⟨rfl, h3, g3⟩; have g3 := (grown_drew (wr.alloc (.cells #[.int .i64 dk, .int .i64 nk] 39)) (some w1.heap.size)).trans g3; have H3 := Lib.hid h3; have Q3 := Lib.hid (rd_kept HQ.out g3 hne1.out); have hb3 := below_grown hb2 g3 hb2.size ra0.out; clear h3; have c3 := cell_kept cA g3 hA.out hA1.out)
            | (go_at_call 23; (refine (qtext_any nk n2 (by exact Q3.out) hs6.out hat.out).mono ?_); rintro e w4 ⟨rfl, h4, g4⟩; have Q4 := Lib.hid h4; have H4 := Lib.hid (rd_kept H3.out g4 hne2.out); have hb4 := below_grown hb3 g4 hb3.size qa0.out; clear h4; have c4 := cell_kept c3 g4 (Nat.lt_of_lt_of_le hA.out g3.size) hA2.out))
        go_wp2
        obtain ⟨at2, err2, h5, q5, hat2⟩ : ∃ (at2 : Nat) (err2 : Int), RdAt 56 w4 w1.heap.size s at2 err2 ∧ RdAt 37 w4 w2.heap.size s at2 err2 ∧ at2 ≤ s.size := ⟨_, _, H4.out, Q4.out, dText_at hat.out⟩
        have y1 := rd1 q5
        have y2 := rd2 q5
        have H5 := Lib.hid h5
        have Q5 := Lib.hid q5
        have g1 : IntKind.i64.wrap ((s.size : Int) - at2) = (s.size : Int) - at2 := IntWalk.i64_in _ (by omega)
        clear h5 q5
        go_quiet (first
          | (go_at_call 35; exact quiet_eq (at_any (rd_drewN H5.out _)))
          | (go_at_call 36; exact quiet_some (left_any (rd_drewN H5.out _) hs6.out hat2))
          | (go_at_call 37; exact quiet_eq (err_any (rd_drewN H5.out _))))
        clear g1
        go_wp2
        go_roundw
        case rel => exact ⟨k + 1, at2, err2, by go_num, by omega, hat2, H5.out, Q5.out, below_drewN hb4 _⟩
        case measure => simp [intOf]; omega
      by_cases hmv : dk.tmod 8 = (-2)
      · skip
        have hm : dk.tmod 8 = (-2) := hmv
        go_wp2
        have cA : (wr.alloc (.cells #[.int .i64 dk, .int .i64 nk] 39)).cell? ⟨wr.heap.size, 1, none⟩ = some (.int .i64 nk) := by simp
        go_region_held3 (fun wx => wx.cell? ⟨wr.heap.size, 1, none⟩ = some (.int .i64 nk)) (first | exact c4 | exact c3 | exact cA)
          (first
            | (go_at_call 22; (refine (rtext_any nk n2 (by exact HT.out) hs6.out hat.out).mono ?_); rintro e w3 ⟨rfl, h3, g3⟩; have g3 := (grown_drew (wr.alloc (.cells #[.int .i64 dk, .int .i64 nk] 39)) (some w1.heap.size)).trans g3; have H3 := Lib.hid h3; have Q3 := Lib.hid (rd_kept HQ.out g3 hne1.out); have hb3 := below_grown hb2 g3 hb2.size ra0.out; clear h3; have c3 := cell_kept cA g3 hA.out hA1.out)
            | (go_at_call 23; (refine (qtext_any nk n2 (by exact Q3.out) hs6.out hat.out).mono ?_); rintro e w4 ⟨rfl, h4, g4⟩; have Q4 := Lib.hid h4; have H4 := Lib.hid (rd_kept H3.out g4 hne2.out); have hb4 := below_grown hb3 g4 hb3.size qa0.out; clear h4; have c4 := cell_kept c3 g4 (Nat.lt_of_lt_of_le hA.out g3.size) hA2.out))
        go_wp2
        obtain ⟨at2, err2, h5, q5, hat2⟩ : ∃ (at2 : Nat) (err2 : Int), RdAt 56 w4 w1.heap.size s at2 err2 ∧ RdAt 37 w4 w2.heap.size s at2 err2 ∧ at2 ≤ s.size := ⟨_, _, H4.out, Q4.out, dText_at hat.out⟩
        have y1 := rd1 q5
        have y2 := rd2 q5
        have H5 := Lib.hid h5
        have Q5 := Lib.hid q5
        have g1 : IntKind.i64.wrap ((s.size : Int) - at2) = (s.size : Int) - at2 := IntWalk.i64_in _ (by omega)
        clear h5 q5
        go_quiet (first
          | (go_at_call 35; exact quiet_eq (at_any (rd_drewN H5.out _)))
          | (go_at_call 36; exact quiet_some (left_any (rd_drewN H5.out _) hs6.out hat2))
          | (go_at_call 37; exact quiet_eq (err_any (rd_drewN H5.out _))))
        clear g1
        go_wp2
        go_roundw
        case rel => exact ⟨k + 1, at2, err2, by go_num, by omega, hat2, H5.out, Q5.out, below_drewN hb4 _⟩
        case measure => simp [intOf]; omega
      by_cases hmv : dk.tmod 8 = 3
      · skip
        have hm : dk.tmod 8 = 3 := hmv
        have hfx := fixed_lt (l := s.data.toList) (at_ := at_) (err := err)
        go_wp2_with (first
          | (go_at_call 24; (with_reducible refine (rfixed_any HT.out hs6.out hat.out).mono ?_); rintro e w3 ⟨rfl, h3, g3⟩; have H3 := Lib.hid h3; have Q3 := Lib.hid (rd_kept HQ.out g3 hne1.out); have hb3 := below_grown hb2 g3 hb2.size ra0.out; clear h3)
          | (go_at_call 25; (with_reducible refine (qlittle4 Q3.out hs6.out hat.out).mono ?_); rintro e w4 ⟨rfl, h4, g4⟩; have Q4 := Lib.hid h4; have H4 := Lib.hid (rd_kept H3.out g4 hne2.out); have hb4 := below_grown hb3 g4 hb3.size qa0.out; clear h4))
        obtain ⟨at2, err2, h5, q5, hat2⟩ : ∃ (at2 : Nat) (err2 : Int), RdAt 56 w4 w1.heap.size s at2 err2 ∧ RdAt 37 w4 w2.heap.size s at2 err2 ∧ at2 ≤ s.size := ⟨_, _, H4.out, Q4.out, dTake_at hat.out⟩
        have y1 := rd1 q5
        have y2 := rd2 q5
        have H5 := Lib.hid h5
        have Q5 := Lib.hid q5
        have g1 : IntKind.i64.wrap ((s.size : Int) - at2) = (s.size : Int) - at2 := IntWalk.i64_in _ (by omega)
        clear h5 q5
        go_quiet (first
          | (go_at_call 35; exact quiet_eq (at_any (rd_drewN H5.out _)))
          | (go_at_call 36; exact quiet_some (left_any (rd_drewN H5.out _) hs6.out hat2))
          | (go_at_call 37; exact quiet_eq (err_any (rd_drewN H5.out _))))
        clear g1
        go_wp2
        go_roundw
        case rel => exact ⟨k + 1, at2, err2, by go_num, by omega, hat2, H5.out, Q5.out, below_drewN hb4 _⟩
        case measure => simp [intOf]; omega
      by_cases hmv : dk.tmod 8 = (-3)
      · skip
        have hm : dk.tmod 8 = (-3) := hmv
        have hfx := fixed_lt (l := s.data.toList) (at_ := at_) (err := err)
        go_wp2_with (first
          | (go_at_call 24; (with_reducible refine (rfixed_any HT.out hs6.out hat.out).mono ?_); rintro e w3 ⟨rfl, h3, g3⟩; have H3 := Lib.hid h3; have Q3 := Lib.hid (rd_kept HQ.out g3 hne1.out); have hb3 := below_grown hb2 g3 hb2.size ra0.out; clear h3)
          | (go_at_call 25; (with_reducible refine (qlittle4 Q3.out hs6.out hat.out).mono ?_); rintro e w4 ⟨rfl, h4, g4⟩; have Q4 := Lib.hid h4; have H4 := Lib.hid (rd_kept H3.out g4 hne2.out); have hb4 := below_grown hb3 g4 hb3.size qa0.out; clear h4))
        obtain ⟨at2, err2, h5, q5, hat2⟩ : ∃ (at2 : Nat) (err2 : Int), RdAt 56 w4 w1.heap.size s at2 err2 ∧ RdAt 37 w4 w2.heap.size s at2 err2 ∧ at2 ≤ s.size := ⟨_, _, H4.out, Q4.out, dTake_at hat.out⟩
        have y1 := rd1 q5
        have y2 := rd2 q5
        have H5 := Lib.hid h5
        have Q5 := Lib.hid q5
        have g1 : IntKind.i64.wrap ((s.size : Int) - at2) = (s.size : Int) - at2 := IntWalk.i64_in _ (by omega)
        clear h5 q5
        go_quiet (first
          | (go_at_call 35; exact quiet_eq (at_any (rd_drewN H5.out _)))
          | (go_at_call 36; exact quiet_some (left_any (rd_drewN H5.out _) hs6.out hat2))
          | (go_at_call 37; exact quiet_eq (err_any (rd_drewN H5.out _))))
        clear g1
        go_wp2
        go_roundw
        case rel => exact ⟨k + 1, at2, err2, by go_num, by omega, hat2, H5.out, Q5.out, below_drewN hb4 _⟩
        case measure => simp [intOf]; omega
      by_cases hmv : dk.tmod 8 = 4
      · skip
        have hm : dk.tmod 8 = 4 := hmv
        go_wp2_with (first
          | (go_at_call 26; (with_reducible refine (rwide_any HT.out hs6.out hat.out).mono ?_); rintro e w3 ⟨rfl, h3, g3⟩; have H3 := Lib.hid h3; have Q3 := Lib.hid (rd_kept HQ.out g3 hne1.out); have hb3 := below_grown hb2 g3 hb2.size ra0.out; clear h3)
          | (go_at_call 25; (with_reducible refine (qlittle8 Q3.out hs6.out hat.out).mono ?_); rintro e w4 ⟨rfl, h4, g4⟩; have Q4 := Lib.hid h4; have H4 := Lib.hid (rd_kept H3.out g4 hne2.out); have hb4 := below_grown hb3 g4 hb3.size qa0.out; clear h4))
        obtain ⟨at2, err2, h5, q5, hat2⟩ : ∃ (at2 : Nat) (err2 : Int), RdAt 56 w4 w1.heap.size s at2 err2 ∧ RdAt 37 w4 w2.heap.size s at2 err2 ∧ at2 ≤ s.size := ⟨_, _, H4.out, Q4.out, dTake_at hat.out⟩
        have y1 := rd1 q5
        have y2 := rd2 q5
        have H5 := Lib.hid h5
        have Q5 := Lib.hid q5
        have g1 : IntKind.i64.wrap ((s.size : Int) - at2) = (s.size : Int) - at2 := IntWalk.i64_in _ (by omega)
        clear h5 q5
        go_quiet (first
          | (go_at_call 35; exact quiet_eq (at_any (rd_drewN H5.out _)))
          | (go_at_call 36; exact quiet_some (left_any (rd_drewN H5.out _) hs6.out hat2))
          | (go_at_call 37; exact quiet_eq (err_any (rd_drewN H5.out _))))
        clear g1
        go_wp2
        go_roundw
        case rel => exact ⟨k + 1, at2, err2, by go_num, by omega, hat2, H5.out, Q5.out, below_drewN hb4 _⟩
        case measure => simp [intOf]; omega
      by_cases hmv : dk.tmod 8 = (-4)
      · skip
        have hm : dk.tmod 8 = (-4) := hmv
        go_wp2_with (first
          | (go_at_call 26; (with_reducible refine (rwide_any HT.out hs6.out hat.out).mono ?_); rintro e w3 ⟨rfl, h3, g3⟩; have H3 := Lib.hid h3; have Q3 := Lib.hid (rd_kept HQ.out g3 hne1.out); have hb3 := below_grown hb2 g3 hb2.size ra0.out; clear h3)
          | (go_at_call 25; (with_reducible refine (qlittle8 Q3.out hs6.out hat.out).mono ?_); rintro e w4 ⟨rfl, h4, g4⟩; have Q4 := Lib.hid h4; have H4 := Lib.hid (rd_kept H3.out g4 hne2.out); have hb4 := below_grown hb3 g4 hb3.size qa0.out; clear h4))
        obtain ⟨at2, err2, h5, q5, hat2⟩ : ∃ (at2 : Nat) (err2 : Int), RdAt 56 w4 w1.heap.size s at2 err2 ∧ RdAt 37 w4 w2.heap.size s at2 err2 ∧ at2 ≤ s.size := ⟨_, _, H4.out, Q4.out, dTake_at hat.out⟩
        have y1 := rd1 q5
        have y2 := rd2 q5
        have H5 := Lib.hid h5
        have Q5 := Lib.hid q5
        have g1 : IntKind.i64.wrap ((s.size : Int) - at2) = (s.size : Int) - at2 := IntWalk.i64_in _ (by omega)
        clear h5 q5
        go_quiet (first
          | (go_at_call 35; exact quiet_eq (at_any (rd_drewN H5.out _)))
          | (go_at_call 36; exact quiet_some (left_any (rd_drewN H5.out _) hs6.out hat2))
          | (go_at_call 37; exact quiet_eq (err_any (rd_drewN H5.out _))))
        clear g1
        go_wp2
        go_roundw
        case rel => exact ⟨k + 1, at2, err2, by go_num, by omega, hat2, H5.out, Q5.out, below_drewN hb4 _⟩
        case measure => simp [intOf]; omega
      by_cases hmv : dk.tmod 8 = 5
      · skip
        have hm : dk.tmod 8 = 5 := hmv
        go_wp2
        have cA : (wr.alloc (.cells #[.int .i64 dk, .int .i64 nk] 39)).cell? ⟨wr.heap.size, 1, none⟩ = some (.int .i64 nk) := by simp
        go_region_held3 (fun wx => wx.cell? ⟨wr.heap.size, 1, none⟩ = some (.int .i64 nk)) (first | exact c4 | exact c3 | exact cA)
          (first
            | (go_at_call 27; (refine (take_any nk (by exact HT.out) hs6.out hat.out).mono ?_); rintro e w3 ⟨rfl, h3, g3⟩; have g3 := (grown_drew (wr.alloc (.cells #[.int .i64 dk, .int .i64 nk] 39)) (some w1.heap.size)).trans g3; have H3 := Lib.hid h3; have Q3 := Lib.hid (rd_kept HQ.out g3 hne1.out); have hb3 := below_grown hb2 g3 hb2.size ra0.out; clear h3; have c3 := cell_kept cA g3 hA.out hA1.out)
            | (go_at_call 28; (refine (qtake_any nk (by exact Q3.out) hs6.out hat.out).mono ?_); rintro e w4 ⟨rfl, h4, g4⟩; have Q4 := Lib.hid h4; have H4 := Lib.hid (rd_kept H3.out g4 hne2.out); have hb4 := below_grown hb3 g4 hb3.size qa0.out; clear h4; have c4 := cell_kept c3 g4 (Nat.lt_of_lt_of_le hA.out g3.size) hA2.out))
        go_wp2
        obtain ⟨at2, err2, h5, q5, hat2⟩ : ∃ (at2 : Nat) (err2 : Int), RdAt 56 w4 w1.heap.size s at2 err2 ∧ RdAt 37 w4 w2.heap.size s at2 err2 ∧ at2 ≤ s.size := ⟨_, _, H4.out, Q4.out, dTake_at hat.out⟩
        have y1 := rd1 q5
        have y2 := rd2 q5
        have H5 := Lib.hid h5
        have Q5 := Lib.hid q5
        have g1 : IntKind.i64.wrap ((s.size : Int) - at2) = (s.size : Int) - at2 := IntWalk.i64_in _ (by omega)
        clear h5 q5
        go_quiet (first
          | (go_at_call 35; exact quiet_eq (at_any (rd_drewN H5.out _)))
          | (go_at_call 36; exact quiet_some (left_any (rd_drewN H5.out _) hs6.out hat2))
          | (go_at_call 37; exact quiet_eq (err_any (rd_drewN H5.out _))))
        clear g1
        go_wp2
        go_roundw
        case rel => exact ⟨k + 1, at2, err2, by go_num, by omega, hat2, H5.out, Q5.out, below_drewN hb4 _⟩
        case measure => simp [intOf]; omega
      by_cases hmv : dk.tmod 8 = (-5)
      · skip
        have hm : dk.tmod 8 = (-5) := hmv
        go_wp2
        have cA : (wr.alloc (.cells #[.int .i64 dk, .int .i64 nk] 39)).cell? ⟨wr.heap.size, 1, none⟩ = some (.int .i64 nk) := by simp
        go_region_held3 (fun wx => wx.cell? ⟨wr.heap.size, 1, none⟩ = some (.int .i64 nk)) (first | exact c4 | exact c3 | exact cA)
          (first
            | (go_at_call 27; (refine (take_any nk (by exact HT.out) hs6.out hat.out).mono ?_); rintro e w3 ⟨rfl, h3, g3⟩; have g3 := (grown_drew (wr.alloc (.cells #[.int .i64 dk, .int .i64 nk] 39)) (some w1.heap.size)).trans g3; have H3 := Lib.hid h3; have Q3 := Lib.hid (rd_kept HQ.out g3 hne1.out); have hb3 := below_grown hb2 g3 hb2.size ra0.out; clear h3; have c3 := cell_kept cA g3 hA.out hA1.out)
            | (go_at_call 28; (refine (qtake_any nk (by exact Q3.out) hs6.out hat.out).mono ?_); rintro e w4 ⟨rfl, h4, g4⟩; have Q4 := Lib.hid h4; have H4 := Lib.hid (rd_kept H3.out g4 hne2.out); have hb4 := below_grown hb3 g4 hb3.size qa0.out; clear h4; have c4 := cell_kept c3 g4 (Nat.lt_of_lt_of_le hA.out g3.size) hA2.out))
        go_wp2
        obtain ⟨at2, err2, h5, q5, hat2⟩ : ∃ (at2 : Nat) (err2 : Int), RdAt 56 w4 w1.heap.size s at2 err2 ∧ RdAt 37 w4 w2.heap.size s at2 err2 ∧ at2 ≤ s.size := ⟨_, _, H4.out, Q4.out, dTake_at hat.out⟩
        have y1 := rd1 q5
        have y2 := rd2 q5
        have H5 := Lib.hid h5
        have Q5 := Lib.hid q5
        have g1 : IntKind.i64.wrap ((s.size : Int) - at2) = (s.size : Int) - at2 := IntWalk.i64_in _ (by omega)
        clear h5 q5
        go_quiet (first
          | (go_at_call 35; exact quiet_eq (at_any (rd_drewN H5.out _)))
          | (go_at_call 36; exact quiet_some (left_any (rd_drewN H5.out _) hs6.out hat2))
          | (go_at_call 37; exact quiet_eq (err_any (rd_drewN H5.out _))))
        clear g1
        go_wp2
        go_roundw
        case rel => exact ⟨k + 1, at2, err2, by go_num, by omega, hat2, H5.out, Q5.out, below_drewN hb4 _⟩
        case measure => simp [intOf]; omega
      by_cases hmv : dk.tmod 8 = 6
      · skip
        have hm : dk.tmod 8 = 6 := hmv
        have cA : (wr.alloc (.cells #[.int .i64 dk, .int .i64 nk] 39)).cell? ⟨wr.heap.size, 1, none⟩ = some (.int .i64 nk) := by simp
        go_wp2_with (first
          | (go_at_call 29; (with_reducible refine (fail_any nk HT.out).mono ?_); rintro e w3 ⟨rfl, h3, g3⟩; have H3 := Lib.hid h3; have Q3 := Lib.hid (rd_kept HQ.out g3 hne1.out); have hb3 := below_grown hb2 g3 hb2.size ra0.out; clear h3; have c3 := cell_kept cA g3 hA.out hA1.out)
          | (go_at_call 30; (with_reducible refine (qfail_any nk Q3.out).mono ?_); rintro e w4 ⟨rfl, h4, g4⟩; have Q4 := Lib.hid h4; have H4 := Lib.hid (rd_kept H3.out g4 hne2.out); have hb4 := below_grown hb3 g4 hb3.size qa0.out; clear h4))
        obtain ⟨at2, err2, h5, q5, hat2⟩ : ∃ (at2 : Nat) (err2 : Int), RdAt 56 w4 w1.heap.size s at2 err2 ∧ RdAt 37 w4 w2.heap.size s at2 err2 ∧ at2 ≤ s.size := ⟨_, _, H4.out, Q4.out, Nat.le_trans (Nat.le_of_eq (dFail_at _ _ _)) hat.out⟩
        have y1 := rd1 q5
        have y2 := rd2 q5
        have H5 := Lib.hid h5
        have Q5 := Lib.hid q5
        have g1 : IntKind.i64.wrap ((s.size : Int) - at2) = (s.size : Int) - at2 := IntWalk.i64_in _ (by omega)
        clear h5 q5
        go_quiet (first
          | (go_at_call 35; exact quiet_eq (at_any (rd_drewN H5.out _)))
          | (go_at_call 36; exact quiet_some (left_any (rd_drewN H5.out _) hs6.out hat2))
          | (go_at_call 37; exact quiet_eq (err_any (rd_drewN H5.out _))))
        clear g1
        go_wp2
        go_roundw
        case rel => exact ⟨k + 1, at2, err2, by go_num, by omega, hat2, H5.out, Q5.out, below_drewN hb4 _⟩
        case measure => simp [intOf]; omega
      by_cases hmv : dk.tmod 8 = (-6)
      · skip
        have hm : dk.tmod 8 = (-6) := hmv
        have cA : (wr.alloc (.cells #[.int .i64 dk, .int .i64 nk] 39)).cell? ⟨wr.heap.size, 1, none⟩ = some (.int .i64 nk) := by simp
        go_wp2_with (first
          | (go_at_call 29; (with_reducible refine (fail_any nk HT.out).mono ?_); rintro e w3 ⟨rfl, h3, g3⟩; have H3 := Lib.hid h3; have Q3 := Lib.hid (rd_kept HQ.out g3 hne1.out); have hb3 := below_grown hb2 g3 hb2.size ra0.out; clear h3; have c3 := cell_kept cA g3 hA.out hA1.out)
          | (go_at_call 30; (with_reducible refine (qfail_any nk Q3.out).mono ?_); rintro e w4 ⟨rfl, h4, g4⟩; have Q4 := Lib.hid h4; have H4 := Lib.hid (rd_kept H3.out g4 hne2.out); have hb4 := below_grown hb3 g4 hb3.size qa0.out; clear h4))
        obtain ⟨at2, err2, h5, q5, hat2⟩ : ∃ (at2 : Nat) (err2 : Int), RdAt 56 w4 w1.heap.size s at2 err2 ∧ RdAt 37 w4 w2.heap.size s at2 err2 ∧ at2 ≤ s.size := ⟨_, _, H4.out, Q4.out, Nat.le_trans (Nat.le_of_eq (dFail_at _ _ _)) hat.out⟩
        have y1 := rd1 q5
        have y2 := rd2 q5
        have H5 := Lib.hid h5
        have Q5 := Lib.hid q5
        have g1 : IntKind.i64.wrap ((s.size : Int) - at2) = (s.size : Int) - at2 := IntWalk.i64_in _ (by omega)
        clear h5 q5
        go_quiet (first
          | (go_at_call 35; exact quiet_eq (at_any (rd_drewN H5.out _)))
          | (go_at_call 36; exact quiet_some (left_any (rd_drewN H5.out _) hs6.out hat2))
          | (go_at_call 37; exact quiet_eq (err_any (rd_drewN H5.out _))))
        clear g1
        go_wp2
        go_roundw
        case rel => exact ⟨k + 1, at2, err2, by go_num, by omega, hat2, H5.out, Q5.out, below_drewN hb4 _⟩
        case measure => simp [intOf]; omega
      by_cases hmv : dk.tmod 8 = 7
      · skip
        have hm : dk.tmod 8 = 7 := hmv
        go_wp2_with (first
          | (go_at_call 31; (with_reducible refine (rend_any HT.out hs6.out hat.out).mono ?_); rintro e w3 ⟨rfl, h3, g3⟩; have H3 := Lib.hid h3; have Q3 := Lib.hid (rd_kept HQ.out g3 hne1.out); have hb3 := below_grown hb2 g3 hb2.size ra0.out; clear h3)
          | (go_at_call 32; (with_reducible refine (qrend_any Q3.out hs6.out hat.out).mono ?_); rintro e w4 ⟨rfl, h4, g4⟩; have Q4 := Lib.hid h4; have H4 := Lib.hid (rd_kept H3.out g4 hne2.out); have hb4 := below_grown hb3 g4 hb3.size qa0.out; clear h4))
        obtain ⟨at2, err2, h5, q5, hat2⟩ : ∃ (at2 : Nat) (err2 : Int), RdAt 56 w4 w1.heap.size s at2 err2 ∧ RdAt 37 w4 w2.heap.size s at2 err2 ∧ at2 ≤ s.size := ⟨_, _, H4.out, Q4.out, hat.out⟩
        have y1 := rd1 q5
        have y2 := rd2 q5
        have H5 := Lib.hid h5
        have Q5 := Lib.hid q5
        have g1 : IntKind.i64.wrap ((s.size : Int) - at2) = (s.size : Int) - at2 := IntWalk.i64_in _ (by omega)
        clear h5 q5
        go_quiet (first
          | (go_at_call 35; exact quiet_eq (at_any (rd_drewN H5.out _)))
          | (go_at_call 36; exact quiet_some (left_any (rd_drewN H5.out _) hs6.out hat2))
          | (go_at_call 37; exact quiet_eq (err_any (rd_drewN H5.out _))))
        clear g1
        go_wp2
        go_roundw
        case rel => exact ⟨k + 1, at2, err2, by go_num, by omega, hat2, H5.out, Q5.out, below_drewN hb4 _⟩
        case measure => simp [intOf]; omega
      by_cases hmv : dk.tmod 8 = (-7)
      · skip
        have hm : dk.tmod 8 = (-7) := hmv
        go_wp2_with (first
          | (go_at_call 31; (with_reducible refine (rend_any HT.out hs6.out hat.out).mono ?_); rintro e w3 ⟨rfl, h3, g3⟩; have H3 := Lib.hid h3; have Q3 := Lib.hid (rd_kept HQ.out g3 hne1.out); have hb3 := below_grown hb2 g3 hb2.size ra0.out; clear h3)
          | (go_at_call 32; (with_reducible refine (qrend_any Q3.out hs6.out hat.out).mono ?_); rintro e w4 ⟨rfl, h4, g4⟩; have Q4 := Lib.hid h4; have H4 := Lib.hid (rd_kept H3.out g4 hne2.out); have hb4 := below_grown hb3 g4 hb3.size qa0.out; clear h4))
        obtain ⟨at2, err2, h5, q5, hat2⟩ : ∃ (at2 : Nat) (err2 : Int), RdAt 56 w4 w1.heap.size s at2 err2 ∧ RdAt 37 w4 w2.heap.size s at2 err2 ∧ at2 ≤ s.size := ⟨_, _, H4.out, Q4.out, hat.out⟩
        have y1 := rd1 q5
        have y2 := rd2 q5
        have H5 := Lib.hid h5
        have Q5 := Lib.hid q5
        have g1 : IntKind.i64.wrap ((s.size : Int) - at2) = (s.size : Int) - at2 := IntWalk.i64_in _ (by omega)
        clear h5 q5
        go_quiet (first
          | (go_at_call 35; exact quiet_eq (at_any (rd_drewN H5.out _)))
          | (go_at_call 36; exact quiet_some (left_any (rd_drewN H5.out _) hs6.out hat2))
          | (go_at_call 37; exact quiet_eq (err_any (rd_drewN H5.out _))))
        clear g1
        go_wp2
        go_roundw
        case rel => exact ⟨k + 1, at2, err2, by go_num, by omega, hat2, H5.out, Q5.out, below_drewN hb4 _⟩
        case measure => simp [intOf]; omega
      exact absurd (tmod8 dk) (by omega)
    · go_wp2
      go_ret
      exact ⟨rfl, hb⟩

set_option maxRecDepth 100000 in
theorem walk_nil (s : ByteArray) (hs : s.size ≤ 2000) (w : World) :
    Calls Try.prog 4 #[.string s, .slice none 0 0] w fun e w' => e = .returned (.bool true) ∧ Below w.heap.size w w' := by
  go_enter Try.func4, Try.ntmps4
  go_wp2_with (first
    | (go_at_call 8; refine (awake_any _).mono ?_; rintro e w1 ⟨rfl, b1⟩)
    | (go_at_call 19; refine (over_any _ _).mono ?_; rintro e w2 ⟨rfl, h2, b2⟩; clear h2))
  have hb := (b1.trans (b2.mono b1.size)).alloc (b1.trans (b2.mono b1.size)).size (.cells #[.string s, .int .i64 0, .int .i64 0] 37)
  go_loopw [27] (fun i wr => i = .int .i64 0 ∧ Below w.heap.size w wr) (fun _ _ => 0)
  case atStart => exact ⟨rfl, hb⟩
  case round =>
    obtain ⟨rfl, hb⟩ := hrel
    go_wp2
    go_ret
    exact ⟨rfl, hb⟩
theorem walk_long (s : ByteArray) (hsm : s.size ≤ 9223372036854775807) (A : Option Addr) (n c : Nat) (hn : n ≤ 9223372036854775807) (h : 2000 < s.size ∨ (s.size ≤ 2000 ∧ 50 < n)) (w : World) :
    Calls Try.prog 4 #[.string s, .slice A n c] w fun e w' => e = .returned (.bool true) ∧ Below w.heap.size w w' := by
  rcases h with h | ⟨h0, h⟩
  · go_enter Try.func4, Try.ntmps4
    go_wp2_with (go_at_call 8; refine (awake_any _).mono ?_; rintro e w1 ⟨rfl, b1⟩)
    go_ret
    exact ⟨rfl, b1⟩
  · go_enter Try.func4, Try.ntmps4
    go_wp2_with (go_at_call 8; refine (awake_any _).mono ?_; rintro e w1 ⟨rfl, b1⟩)
    go_ret
    exact ⟨rfl, b1⟩
theorem cell_lt {w : World} {p : Addr} {v : Value} (h : w.cell? p = some v) : p.block < w.heap.size := by
  rcases Nat.lt_or_ge p.block w.heap.size with h' | h'
  · exact h'
  · unfold World.cell? at h
    rw [Array.getElem?_eq_none h'] at h
    simp at h

set_option maxRecDepth 100000 in
theorem lifted (os : Os) (started : os.Started) (H : Type) (enc : TypeId × Value → H) :
    ReturnsInHanded {} Try.checked os 4 .any (Rows.varintReadsSpec.pre6 enc Try.prog Try.f4 Rows.varintReadsRow.domain false) (Rows.varintReadsSpec.post enc Try.prog Try.f4 false true false false) := by
  refine returnsInHanded_of_change (C := Try.checked) own started (by kernel_rfl) Try.func4
    (ChangeSpec.witness6 (enc := enc) (C := Try.checked) false ⟨#[], #[.string .empty, .slice none 0 0], []⟩ 8 (by kernel_rfl) (by kernel_rfl) (by kernel_rfl) (by kernel_rfl)) ?_
  intro W base args ds gs before hval0 hW hcnd _
  have hval : ∀ (j : Nat) t v, Try.f4.params[j]? = some t → args[j]? = some v → Value.okWide Try.prog W .any base t v := hval0
  have hW' := hW
  obtain ⟨p, q, hA0, hV, rfl, hfz, hnd⟩ := hW
  have hA : DataW.TrodAll enc Try.prog W 0 (fun _ => true) true Try.f4.params.toList args.toList ds p := hA0
  rw [Try.params4] at hA hval
  obtain ⟨v0, vs0, d0, ds0, p0, q0, hargs, rfl, rfl, h0, r0⟩ := trodAll_cons hA
  obtain ⟨v1, vs1, d1, ds1, p1, q1, rfl, rfl, rfl, h1, r1⟩ := trodAll_cons r0
  obtain ⟨rfl, rfl, rfl⟩ := trodAll_nil r1
  obtain rfl : args = #[v0, v1] := by cases args; simp_all
  obtain ⟨s, rfl, rfl, rfl, hmax⟩ := open_string Try.underlying9 (hval 0 9 v0 rfl rfl) h0
  obtain ⟨ao, len, cap, rfl⟩ := okWide_slice Try.underlying32 (hval 1 32 v1 rfl rfl)
  have main : Calls Try.prog 4 #[.string s, .slice ao len cap] W fun e w' => e = .returned (.bool true) ∧ Below W.heap.size W w' := by
    obtain ⟨fuel, hf⟩ := h1
    rcases Go.Deep.open_slice_pairs Try.underlying32 Try.underlying39 (by kernel_rfl) rfl rfl (by kernel_rfl) (by kernel_rfl) hf with ⟨hcs, hx⟩ | ⟨a, n, c, m, nf, V0, V1, D0, D1, P0, P1, hcs, hb0, hlc, hcm, hmm, hx, hcell⟩
    · simp [Value.cells] at hcs
      obtain ⟨rfl, rfl, rfl⟩ := hcs
      by_cases hs : s.size ≤ 2000
      · exact walk_nil s hs W
      · exact walk_long s hmax none 0 0 (by omega) (.inl (by omega)) W
    · simp [Value.cells] at hcs
      obtain ⟨rfl, rfl, rfl⟩ := hcs
      have hm : m = cap := by simpa using hmm
      subst hm
      by_cases hs : s.size ≤ 2000
      · by_cases hn : len ≤ 50
        · have hint : ∀ i, i < m → (∃ d, V0 i = .int .i64 d ∧ -9223372036854775808 ≤ d ∧ d ≤ 9223372036854775807) ∧ (∃ d, V1 i = .int .i64 d ∧ -9223372036854775808 ≤ d ∧ d ≤ 9223372036854775807) := fun i hi => by
            obtain ⟨_, _, t0, t1⟩ := hcell i hi
            obtain ⟨x0, e0, _, w0⟩ := DataW.trod_int Try.underlying3 t0
            obtain ⟨x1, e1, _, w1⟩ := DataW.trod_int Try.underlying3 t1
            exact ⟨⟨x0, by simpa using e0, i64_bd w0⟩, ⟨x1, by simpa using e1, i64_bd w1⟩⟩
          refine walk_main s hs a len m hn hlc hcm W (fun h => ?_) (fun i => intOf (V0 i)) (fun i => intOf (V1 i)) (fun i hi => ?_) (fun i hi => ?_) (fun i hi => ?_) (fun i hi => ?_)
          · have := cell_lt (hcell 0 (by omega)).1
            rwa [block_add] at this
          · obtain ⟨⟨d, e, _⟩, _⟩ := hint i (by omega)
            rw [(hcell i (by omega)).1, e]; rfl
          · obtain ⟨_, ⟨d, e, _⟩⟩ := hint i (by omega)
            rw [(hcell i (by omega)).2.1, e]; rfl
          · obtain ⟨⟨d, e, b⟩, _⟩ := hint i (by omega)
            rw [e]; exact b
          · obtain ⟨_, ⟨d, e, b⟩⟩ := hint i (by omega)
            rw [e]; exact b
        · exact walk_long s hmax (some a) len m (by unfold maxLen at hcm; omega) (.inr ⟨hs, by omega⟩) W
      · exact walk_long s hmax (some a) len m (by unfold maxLen at hcm; omega) (.inl (by omega)) W
  refine main.mono fun e W' ⟨he, hb⟩ => ?_
  exact ⟨_, he, post_law hW' rfl rfl rfl (by rw [Try.params4]; decide +kernel) hb⟩

theorem proved : Rows.VarintReadsSaid :=
  OpenClaim.holds_of_wide 4 Try.f4 rfl rfl rfl rfl rfl rfl rfl ⟨rfl, rfl, rfl, rfl, rfl⟩ rfl rfl rfl rfl rfl (by kernel_rfl) Try.func4 (by kernel_rfl)
    (of_decide_eq_true (by kernel_rfl)) (by unfold Func.isWrapper; first | (rw [if_pos (by decide +kernel)]; kernel_rfl) | (rw [if_neg (by decide +kernel)]; exact ⟨rfl, rfl⟩))
    (fun os started H enc _ => lifted os started H enc)
#print axioms proved
end Go.Proofs.Ytgpifihghklgfaa.varintReads
