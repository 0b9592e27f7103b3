/-
  The Go text of a market's keys, walked: the five functions that make them. Conditions: as each theorem states.
-/
import Derived.Test.YtelbhegkaihjhaaDoorScC
namespace Go.Proofs.YtelbhegkaihjhaaDoor
open Go.RowKit
open Vi

def thA (a : Nat) (k : Int) : Th := ⟨⟨#[97]⟩, a, 0, k, 0, 0, 0, ⟨#[]⟩⟩
def thO (i : Nat) : Th := ⟨⟨#[111]⟩, 0, i, 0, 0, 0, 0, ⟨#[]⟩⟩
def thB (k p : Int) (r i : Nat) : Th := ⟨⟨#[98]⟩, 0, i, k, p, r, 0, ⟨#[]⟩⟩
def thE (t i : Nat) : Th := ⟨⟨#[101]⟩, 0, i, 0, 0, 0, t, ⟨#[]⟩⟩
def thN (n : ByteArray) : Th := ⟨⟨#[110]⟩, 0, 0, 0, 0, 0, 0, n⟩
theorem nat0 : (0 : Nat) < 18446744073709551616 := by decide
theorem int0 : (-9223372036854775808 : Int) ≤ 0 ∧ (0 : Int) ≤ 9223372036854775807 := by decide
theorem one_size (c : UInt8) : (⟨#[c]⟩ : ByteArray).size ≤ 1000 := by show 1 ≤ 1000; decide
theorem none_size : (⟨#[]⟩ : ByteArray).size ≤ 1000 := by decide
def keyB (t : Th) : List UInt8 := (mkGo [] (rowK t)).1
def keyE (t : Th) : Int := (mkGo [] (rowK t)).2
/-- a key's function at a world like a given one -/
def Cell0 (m : Int) (W : World) : Prop := W.cell? ⟨0, 0, none⟩ = some (.int .i64 m)
theorem cell0_alloc {m : Int} {W : World} (h : Cell0 m W) (o : Obj) : Cell0 m (W.alloc o) := cell_alloc0 h o
theorem cell0_on {m : Int} {W W' : World} (h : Cell0 m W) (hb : Below W.heap.size W W') : Cell0 m W' := cell0_below h hb
set_option maxRecDepth 100000 in
theorem balance_any {w : World} (a : Nat) (k : Int) (ha : a < 18446744073709551616) (hk : -9223372036854775808 ≤ k ∧ k ≤ 9223372036854775807) (m : Int) (hm : Cell0 m w) :
    Calls Tryd.prog 13 #[.int .u64 a, .int .i64 k] w fun e w' => e = .returned (.string (bs (keyB (thA a k)))) ∧ Below w.heap.size w w' := by
  have HK : Hid (∀ W : World, Cell0 m W → Calls Tryd.prog 22 #[.agg #[.string ⟨#[97]⟩, .int .u64 a, .int .u64 0, .int .i64 k, .int .i64 0, .int .u64 0, .int .u64 0, .string ⟨#[]⟩]] W fun e w' => e = .returned (.tuple #[.string (bs (keyB (thA a k))), .int .i64 (keyE (thA a k))]) ∧ Below W.heap.size W w') :=
    fun W h => key_any (thA a k) ⟨ha, nat0, hk, int0, nat0, nat0⟩ (one_size _) none_size m h
  have HM := Lib.hid hm
  clear hm
  generalize keyB (thA a k) = K at HK ⊢
  generalize keyE (thA a k) = E at HK ⊢
  go_enter Tryd.func13, Tryd.ntmps13
  go_wp2_with (go_at_call 22; (with_reducible refine (HK.out _ HM.out).mono ?_); rintro e w1 ⟨rfl, hb1⟩)
  go_ret
  exact ⟨rfl, hb1⟩
set_option maxRecDepth 100000 in
theorem order_any {w : World} (i : Nat) (hi : i < 18446744073709551616) (m : Int) (hm : Cell0 m w) :
    Calls Tryd.prog 14 #[.int .u64 i] w fun e w' => e = .returned (.string (bs (keyB (thO i)))) ∧ Below w.heap.size w w' := by
  have HK : Hid (∀ W : World, Cell0 m W → Calls Tryd.prog 22 #[.agg #[.string ⟨#[111]⟩, .int .u64 0, .int .u64 i, .int .i64 0, .int .i64 0, .int .u64 0, .int .u64 0, .string ⟨#[]⟩]] W fun e w' => e = .returned (.tuple #[.string (bs (keyB (thO i))), .int .i64 (keyE (thO i))]) ∧ Below W.heap.size W w') :=
    fun W h => key_any (thO i) ⟨nat0, hi, int0, int0, nat0, nat0⟩ (one_size _) none_size m h
  have HM := Lib.hid hm
  clear hm
  generalize keyB (thO i) = K at HK ⊢
  generalize keyE (thO i) = E at HK ⊢
  go_enter Tryd.func14, Tryd.ntmps14
  go_wp2_with (go_at_call 22; (with_reducible refine (HK.out _ HM.out).mono ?_); rintro e w1 ⟨rfl, hb1⟩)
  go_ret
  exact ⟨rfl, hb1⟩
set_option maxRecDepth 100000 in
theorem expiry_any {w : World} (t i : Nat) (ht : t < 18446744073709551616) (hi : i < 18446744073709551616) (m : Int) (hm : Cell0 m w) :
    Calls Tryd.prog 15 #[.int .u64 t, .int .u64 i] w fun e w' => e = .returned (.string (bs (keyB (thE t i)))) ∧ Below w.heap.size w w' := by
  have HK : Hid (∀ W : World, Cell0 m W → Calls Tryd.prog 22 #[.agg #[.string ⟨#[101]⟩, .int .u64 0, .int .u64 i, .int .i64 0, .int .i64 0, .int .u64 0, .int .u64 t, .string ⟨#[]⟩]] W fun e w' => e = .returned (.tuple #[.string (bs (keyB (thE t i))), .int .i64 (keyE (thE t i))]) ∧ Below W.heap.size W w') :=
    fun W h => key_any (thE t i) ⟨nat0, hi, int0, int0, nat0, ht⟩ (one_size _) none_size m h
  have HM := Lib.hid hm
  clear hm
  generalize keyB (thE t i) = K at HK ⊢
  generalize keyE (thE t i) = E at HK ⊢
  go_enter Tryd.func15, Tryd.ntmps15
  go_wp2_with (go_at_call 22; (with_reducible refine (HK.out _ HM.out).mono ?_); rintro e w1 ⟨rfl, hb1⟩)
  go_ret
  exact ⟨rfl, hb1⟩
set_option maxRecDepth 100000 in
theorem number_any {w : World} (n : ByteArray) (hn : n.size ≤ 1000) (m : Int) (hm : Cell0 m w) :
    Calls Tryd.prog 9 #[.string n] w fun e w' => e = .returned (.tuple #[.string (bs (keyB (thN n))), .int .i64 (keyE (thN n))]) ∧ Below w.heap.size w w' := by
  have HK : Hid (∀ W : World, Cell0 m W → Calls Tryd.prog 22 #[.agg #[.string ⟨#[110]⟩, .int .u64 0, .int .u64 0, .int .i64 0, .int .i64 0, .int .u64 0, .int .u64 0, .string n]] W fun e w' => e = .returned (.tuple #[.string (bs (keyB (thN n))), .int .i64 (keyE (thN n))]) ∧ Below W.heap.size W w') :=
    fun W h => key_any (thN n) ⟨nat0, nat0, int0, int0, nat0, nat0⟩ (one_size _) hn m h
  have HM := Lib.hid hm
  clear hm
  generalize keyB (thN n) = K at HK ⊢
  generalize keyE (thN n) = E at HK ⊢
  go_enter Tryd.func9, Tryd.ntmps9
  go_wp2_with (go_at_call 22; (with_reducible refine (HK.out _ HM.out).mono ?_); rintro e w1 ⟨rfl, hb1⟩)
  go_ret2
  exact ⟨rfl, hb1⟩
set_option maxRecDepth 100000 in
theorem place_any {w : World} (i a : Nat) (k p z l : Int) (r x : Nat) (s : Int) (hi : i < 18446744073709551616) (hk : -9223372036854775808 ≤ k ∧ k ≤ 9223372036854775807) (hp : -9223372036854775808 ≤ p ∧ p ≤ 9223372036854775807) (hr : r < 18446744073709551616) (m : Int) (hm : Cell0 m w) :
    Calls Tryd.prog 12 #[.agg #[.int .u64 i, .int .u64 a, .int .i64 k, .int .i64 p, .int .i64 z, .int .i64 l, .int .u64 r, .int .u64 x, .int .i64 s]] w fun e w' => e = .returned (.string (bs (keyB (thB k p r i)))) ∧ Below w.heap.size w w' := by
  have HK : Hid (∀ W : World, Cell0 m W → Calls Tryd.prog 22 #[.agg #[.string ⟨#[98]⟩, .int .u64 0, .int .u64 i, .int .i64 k, .int .i64 p, .int .u64 r, .int .u64 0, .string ⟨#[]⟩]] W fun e w' => e = .returned (.tuple #[.string (bs (keyB (thB k p r i))), .int .i64 (keyE (thB k p r i))]) ∧ Below W.heap.size W w') :=
    fun W h => key_any (thB k p r i) ⟨nat0, hi, hk, hp, hr, nat0⟩ (one_size _) none_size m h
  have HM := Lib.hid hm
  clear hm
  generalize keyB (thB k p r i) = K at HK ⊢
  generalize keyE (thB k p r i) = E at HK ⊢
  go_enter Tryd.func12, Tryd.ntmps12
  go_wp2_with (go_at_call 22; (with_reducible refine (HK.out _ (cell0_alloc HM.out _)).mono ?_); rintro e w1 ⟨rfl, hb1⟩)
  go_ret
  exact ⟨rfl, ((Below.refl _ _).alloc (Nat.le_refl _) _).trans (hb1.mono (by simp))⟩
end Go.Proofs.YtelbhegkaihjhaaDoor
