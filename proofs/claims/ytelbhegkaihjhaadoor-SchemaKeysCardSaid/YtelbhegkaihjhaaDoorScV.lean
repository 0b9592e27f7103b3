/-
  The law of a market's keys at every input. Conditions: as each theorem states.
-/
import Derived.Test.YtelbhegkaihjhaaDoorScU
namespace Go.Proofs.YtelbhegkaihjhaaDoor
open Go.RowKit
open Vi

theorem fk_ne {s : ByteArray} {f : List UInt8} (h : formK s = f) (hf : ¬ f = []) : ¬ formK s = [] := by rw [h]; exact hf
theorem row_a (a i : Nat) (k p : Int) (r t : Nat) (n : ByteArray) : rowK ⟨⟨#[97]⟩, a, i, k, p, r, t, n⟩ = rowK (thA a k) := by
  rw [rowK_at (t := ⟨⟨#[97]⟩, a, i, k, p, r, t, n⟩) (f := [97, 107]) formK_a, rowK_at (t := (thA a k)) (f := [97, 107]) formK_a]
  rfl
theorem row_o (a i : Nat) (k p : Int) (r t : Nat) (n : ByteArray) : rowK ⟨⟨#[111]⟩, a, i, k, p, r, t, n⟩ = rowK (thO i) := by
  rw [rowK_at (t := ⟨⟨#[111]⟩, a, i, k, p, r, t, n⟩) (f := [105]) formK_o, rowK_at (t := (thO i)) (f := [105]) formK_o]
  rfl
theorem row_b (a i : Nat) (k p : Int) (r t : Nat) (n : ByteArray) : rowK ⟨⟨#[98]⟩, a, i, k, p, r, t, n⟩ = rowK (thB k p r i) := by
  rw [rowK_at (t := ⟨⟨#[98]⟩, a, i, k, p, r, t, n⟩) (f := [107, 112, 114, 105]) formK_b, rowK_at (t := (thB k p r i)) (f := [107, 112, 114, 105]) formK_b]
  rfl
theorem row_e (a i : Nat) (k p : Int) (r t : Nat) (n : ByteArray) : rowK ⟨⟨#[101]⟩, a, i, k, p, r, t, n⟩ = rowK (thE t i) := by
  rw [rowK_at (t := ⟨⟨#[101]⟩, a, i, k, p, r, t, n⟩) (f := [116, 105]) formK_e, rowK_at (t := (thE t i)) (f := [116, 105]) formK_e]
  rfl
theorem row_n (a i : Nat) (k p : Int) (r t : Nat) (n : ByteArray) : rowK ⟨⟨#[110]⟩, a, i, k, p, r, t, n⟩ = rowK (thN n) := by
  rw [rowK_at (t := ⟨⟨#[110]⟩, a, i, k, p, r, t, n⟩) (f := [110]) formK_n, rowK_at (t := (thN n)) (f := [110]) formK_n]
  rfl
set_option maxRecDepth 100000 in
set_option maxHeartbeats 8000000 in
theorem keys_heavy {w : World} (s : ByteArray) (a i : Nat) (k p : Int) (r t : Nat) (n T : ByteArray) (hn : n.size ≤ 9223372036854775807) (hT : T.size ≤ 9223372036854775807) (m : Int) (hm : Cell0 m w) (h : 300 < n.size ∨ (¬ 300 < n.size ∧ 300 < T.size)) :
    Calls Tryd.prog 3 #[.agg #[.string s, .int .u64 a, .int .u64 i, .int .i64 k, .int .i64 p, .int .u64 r, .int .u64 t, .string n], .string T] w fun e w' => e = .returned (.bool true) ∧ Below w.heap.size w w' := by
  have AW := Lib.hid fun (W : World) (h : Cell0 m W) => awake_any W m h
  have M0 := Lib.hid (cell0_alloc hm (.cells #[.string s, .int .u64 a, .int .u64 i, .int .i64 k, .int .i64 p, .int .u64 r, .int .u64 t, .string n] 24))
  have B0 := Lib.hid (heap_alloc_new w (.cells #[.string s, .int .u64 a, .int .u64 i, .int .i64 k, .int .i64 p, .int .u64 r, .int .u64 t, .string n] 24))
  clear hm
  rcases h with h | ⟨h, h2⟩
  all_goals
    go_enter Tryd.func3, Tryd.ntmps3
    go_wp2_with (go_at_call 6; (with_reducible refine (AW.out _ M0.out).mono ?_); rintro e w1 ⟨rfl, b1⟩; have B1 := Lib.hid ((b1.block w.heap.size (by simp)).trans B0.out); have L1 := Lib.hid (alloc_below b1); clear b1; obtain ⟨a0, a1, a2, a3, a4, a5, a6, a7⟩ := eight_cells B1.out)
    go_ret
    exact ⟨rfl, L1.out⟩
theorem keys_walk {w : World} (x : Th) (hx : x.ok) (hn : x.name.size ≤ 9223372036854775807) (T : ByteArray) (hT : T.size ≤ 9223372036854775807) (m : Int) (hm : Cell0 m w) :
    Calls Tryd.prog 3 #[x.val, .string T] w fun e w' => e = .returned (.bool true) ∧ Below w.heap.size w w' := by
  obtain ⟨s, a, i, k, p, r, t, n⟩ := x
  by_cases h1 : 300 < n.size
  · exact keys_heavy s a i k p r t n T hn hT m hm (.inl h1)
  by_cases h2 : 300 < T.size
  · exact keys_heavy s a i k p r t n T hn hT m hm (.inr ⟨h1, h2⟩)
  obtain ⟨ha, hi, hk, hp, hr, ht⟩ := hx
  have hn1 : n.size ≤ 300 := Nat.le_of_not_lt h1
  have hn2 : n.size ≤ 1000 := by omega
  have hl : T.data.toList.length ≤ 300 := by rw [size_len]; omega
  have key : ∀ (c : UInt8) (W : World), ¬ formK ⟨#[c]⟩ = [] → Calls Tryd.prog 7 #[(Th.mk ⟨#[c]⟩ a i k p r t n).val] W fun e w' => e = .returned (.string (bs (keyB (Th.mk ⟨#[c]⟩ a i k p r t n)))) ∧ Below W.heap.size W w' :=
    fun c W hc => want_any (Th.mk ⟨#[c]⟩ a i k p r t n) ⟨ha, hi, hk, hp, hr, ht⟩ hc (one_size c) hn2
  have mid : ∃ (y1 y8 : ByteArray) (y2 y3 y6 y7 : Nat) (y4 y5 ye : Int), thOut (parseK T.data.toList) = .tuple #[.agg #[.string y1, .int .u64 y2, .int .u64 y3, .int .i64 y4, .int .i64 y5, .int .u64 y6, .int .u64 y7, .string y8], .int .i64 ye] := by
    cases parseK T.data.toList with
    | none => exact ⟨⟨#[]⟩, ⟨#[]⟩, 0, 0, 0, 0, 0, 0, 19, rfl⟩
    | some y => exact ⟨y.sort, y.name, y.acct, y.id, y.rank, y.time, y.kind, y.price, 0, rfl⟩
  obtain ⟨y1, y8, y2, y3, y6, y7, y4, y5, ye, hy⟩ := mid
  have main := keys_light s a i k p r t n T.data.toList hn1 hl m hm (keyB (thN n)) (keyB (thB k p r i)) (keyB (thA a k)) (keyB (thO i)) (keyB (thE t i)) (keyE (thN n)) ye y1 y8 y2 y3 y6 y7 y4 y5
    (Lib.hid fun W h => number_any n hn2 m h)
    (Lib.hid fun W _ => by
      have := rkey_any (w := W) (Th.mk ⟨#[110]⟩ a i k p r t n) ⟨ha, hi, hk, hp, hr, ht⟩ (fk_ne formK_n (by simp)) (one_size 110) hn2
      unfold keyB keyE at this ⊢
      rw [row_n] at this
      exact this)
    (Lib.hid fun W h => by rw [← hy]; exact parse_all T.data.toList (by omega) m h)
    (Lib.hid fun W _ => by rw [← hy, ← doc_parse]; exact rparse_all T.data.toList (by omega))
    (Lib.hid fun W h => place_any i 0 k p 0 0 r 0 0 hi hk hp hr m h)
    (Lib.hid fun W h => balance_any a k ha hk m h)
    (Lib.hid fun W h => order_any i hi m h)
    (Lib.hid fun W h => expiry_any t i ht hi m h)
    (Lib.hid fun W _ => by
      have := key 97 W (fk_ne formK_a (by simp))
      unfold keyB at this ⊢
      rw [row_a] at this
      exact this)
    (Lib.hid fun W _ => by
      have := key 111 W (fk_ne formK_o (by simp))
      unfold keyB at this ⊢
      rw [row_o] at this
      exact this)
    (Lib.hid fun W _ => by
      have := key 98 W (fk_ne formK_b (by simp))
      unfold keyB at this ⊢
      rw [row_b] at this
      exact this)
    (Lib.hid fun W _ => by
      have := key 101 W (fk_ne formK_e (by simp))
      unfold keyB at this ⊢
      rw [row_e] at this
      exact this)
  rw [bs_of] at main
  exact main
end Go.Proofs.YtelbhegkaihjhaaDoor
