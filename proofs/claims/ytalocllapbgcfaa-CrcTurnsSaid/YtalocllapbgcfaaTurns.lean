/-
  The law CrcTurns returns true at every input. No condition.
-/
import Derived.Test.YtalocllapbgcfaaLaw
import Derived.Test.YtalocllapbgcfaaSumC
import Derived.Test.YtalocllapbgcfaaTurn
import Derived.Lib.ConvBytes
import Derived.Laws.IdiomStrings
import Derived.Deep.CutBlock
import Derived.Deep.LoopGhost
namespace Go.Proofs.Ytalocllapbgcfaa.crcTurns
open Go.ChangeShapes Go.WideShapes Go.ChangeAt Go.RowKit
open Go.ChangeMaps (open_string)
open Crc
open Go.Proofs.Ytalocllapbgcfaa
attribute [local irreducible] Crc.byt Crc.upd Crc.run Crc.add Crc.ofL Crc.turnByte

theorem nat0 : ((0 : Nat) : Int) = 0 := rfl
theorem nat1 : ((1 : Nat) : Int) = 1 := rfl
theorem nat2 : ((2 : Nat) : Int) = 2 := rfl
theorem nat3 : ((3 : Nat) : Int) = 3 := rfl
theorem rem_nat (x : Int) (n : Nat) (hn : 0 < n) : ∃ a : Nat, (IntKind.u64.wrap x).tmod (n : Int) = a ∧ a < n := by
  have h0 : 0 ≤ IntKind.u64.wrap x := by rw [IntKind.wrap_u64]; omega
  have e := Int.tmod_eq_emod_of_nonneg (b := (n : Int)) h0
  have h1 := Int.emod_nonneg (IntKind.u64.wrap x) (b := (n : Int)) (by omega)
  have h2 := Int.emod_lt_of_pos (IntKind.u64.wrap x) (b := (n : Int)) (by omega)
  exact ⟨((IntKind.u64.wrap x) % (n : Int)).toNat, by rw [e]; omega, by omega⟩

/-- block b of the world holds the bytes l, and may be written -/
def Holds (w : World) (b : Nat) (l : List UInt8) : Prop := ∀ q (h : q < l.length), w.cell? ⟨b, q, none⟩ = some (.int .u8 (l[q].toNat : Int)) ∧ w.frozen? ⟨b, q, none⟩ = false

theorem holds_new (w : World) (s : ByteArray) : Holds (Lib.bytesWorld w 5 s) w.heap.size s.data.toList := by
  intro q h
  have hq : q < s.size := by simpa using h
  refine ⟨?_, ?_⟩
  · rw [Lib.bytesWorld_cell w 5 s q hq]; simp [List.getD, List.getElem?_eq_getElem h]
  · have := Lib.bytesWorld_at_new w 5 s
    have hsz : s.size ≤ (Lib.bytesCells w 5 s).size := by simp [Lib.bytesCells]
    simp [World.frozen?, this]
    omega
theorem below_new (w : World) (s : ByteArray) : Below w.heap.size w (Lib.bytesWorld w 5 s) :=
  ⟨rfl, rfl, rfl, by rw [Lib.bytesWorld_size]; omega, fun k hk => Lib.bytesWorld_at_old w 5 s k hk⟩
theorem holds_set {w : World} {b : Nat} {l : List UInt8} (h : Holds w b l) {i : Nat} (hi : i < l.length) (u : UInt8) :
    Holds (w.setCell ⟨b, i, none⟩ (.int .u8 (u.toNat : Int))) b (l.set i u) := by
  intro q hq
  have hq' : q < l.length := by simpa using hq
  obtain ⟨h1, h2⟩ := h q hq'
  by_cases e : q = i
  · subst e
    refine ⟨?_, by rw [World.frozen?_setCell]; exact h2⟩
    rw [World.cell?_setCell_same w _ _ h1]
    simp
  · refine ⟨?_, by rw [World.frozen?_setCell]; exact h2⟩
    rw [World.cell?_setCell_other w _ _ _ (by intro h; injection h with _ h _; exact e h.symm), h1, List.getElem_set_ne (Ne.symm e)]
theorem exists_L (l : List UInt8) (k t : Nat) (hk : k + 4 ≤ l.length) (ht : t < 4294967296) (h0 : t ≠ 0) :
    ∃ L : Nat → List UInt8, L 0 = l ∧ (∀ j, (L j).length = l.length) ∧ (∀ j, j < 4 → ∃ c, (L j)[k + j]? = some c ∧ L (j + 1) = (L j).set (k + j) (c ^^^ turnByte t j)) ∧ ofL (L 4) ≠ ofL l := by
  obtain ⟨p, c0, c1, c2, c3, r, rfl, rfl⟩ : ∃ p c0 c1 c2 c3 r, l = p ++ ([c0, c1, c2, c3] ++ r) ∧ p.length = k := by
    have hd : (l.drop k).length = l.length - k := List.length_drop
    match h : l.drop k, hd with
    | [], hd => simp at hd; omega
    | [_], hd => simp at hd; omega
    | [_, _], hd => simp at hd; omega
    | [_, _, _], hd => simp at hd; omega
    | c0 :: c1 :: c2 :: c3 :: r, _ => exact ⟨l.take k, c0, c1, c2, c3, r, by rw [show [c0, c1, c2, c3] ++ r = l.drop k by rw [h]; rfl, List.take_append_drop], by simp; omega⟩
  refine ⟨fun j => p ++ ((match j with
    | 0 => [c0, c1, c2, c3]
    | 1 => [c0 ^^^ turnByte t 0, c1, c2, c3]
    | 2 => [c0 ^^^ turnByte t 0, c1 ^^^ turnByte t 1, c2, c3]
    | 3 => [c0 ^^^ turnByte t 0, c1 ^^^ turnByte t 1, c2 ^^^ turnByte t 2, c3]
    | _ => [c0 ^^^ turnByte t 0, c1 ^^^ turnByte t 1, c2 ^^^ turnByte t 2, c3 ^^^ turnByte t 3]) ++ r), rfl, ?_, ?_, ofL_turn p r c0 c1 c2 c3 t ht h0⟩
  · intro j
    match j with
    | 0 => rfl
    | 1 => simp
    | 2 => simp
    | 3 => simp
    | _ + 4 => simp
  · intro j hj
    match j, hj with
    | 0, _ => exact ⟨c0, by simp, by simp⟩
    | 1, _ => exact ⟨c1, by simp, by simp⟩
    | 2, _ => exact ⟨c2, by simp, by simp⟩
    | 3, _ => exact ⟨c3, by simp, by simp⟩
theorem xor_byte (c : UInt8) (t j : Nat) : bits .xor .u8 (c.toNat : Int) ((t : Int) / ((256 ^ j : Nat) : Int) % 256) = ((c ^^^ turnByte t j).toNat : Int) := by
  rw [UInt8.toNat_xor, turnByte_toNat]
  have := u8_xor_nat c.toNat (t / 256 ^ j % 256) c.toNat_lt (Nat.mod_lt _ (by decide))
  rw [← this]
  congr 1
theorem xor_byte0 (c : UInt8) (t : Nat) : bits .xor .u8 (c.toNat : Int) ((t : Int) % 256) = ((c ^^^ turnByte t 0).toNat : Int) := by
  have := xor_byte c t 0
  simpa using this
theorem xor_byte1 (c : UInt8) (t : Nat) : bits .xor .u8 (c.toNat : Int) ((t : Int) / 256 % 256) = ((c ^^^ turnByte t 1).toNat : Int) := xor_byte c t 1
theorem xor_byte2 (c : UInt8) (t : Nat) : bits .xor .u8 (c.toNat : Int) ((t : Int) / 65536 % 256) = ((c ^^^ turnByte t 2).toNat : Int) := xor_byte c t 2
theorem xor_byte3 (c : UInt8) (t : Nat) (ht : t < 4294967296) : bits .xor .u8 (c.toNat : Int) ((t : Int) / 16777216) = ((c ^^^ turnByte t 3).toNat : Int) := by
  have h : (t : Int) / 16777216 = (t : Int) / 16777216 % 256 := by omega
  rw [h]
  exact xor_byte c t 3
theorem add_at (b q : Nat) : (⟨b, 0, none⟩ : Addr).add q = ⟨b, q, none⟩ := by unfold Addr.add; split <;> simp_all
theorem holds_drew {w : World} {b : Nat} {l : List UInt8} (h : Holds w b l) : Holds w.drew b l := h
def TurnRel (w1 : World) (L : Nat → List UInt8) (i : Value) (wr : World) : Prop :=
  ∃ j : Nat, j ≤ 4 ∧ i = .int .i64 (j : Int) ∧ Below w1.heap.size w1 wr ∧ Holds wr w1.heap.size (L j)
theorem walk_odd (s : ByteArray) (hM : Hid (s.size ≤ maxLen)) (x : Int) (t : Nat) (h : s.size < 4 ∨ 5000 < s.size ∨ t = 0) (w : World) :
    Calls Try.prog 6 #[.string s, .int .i64 x, .int .u32 t] w fun e w' => e = .returned (.bool true) ∧ Below w.heap.size w w' := by
  have hx : s.size ≤ 9223372036854775807 := hM.out
  by_cases h1 : s.size < 4
  · clear h
    go_enter Try.func6, Try.ntmps6
    go_wp2_with (first
      | (go_at_call 11; with_reducible refine (awake_any _).mono ?_; rintro e w1 ⟨rfl, hb⟩))
    go_ret
    exact ⟨rfl, hb⟩
  · by_cases h2 : 5000 < s.size
    · clear h
      have h1' : 4 ≤ s.size := by omega
      go_enter Try.func6, Try.ntmps6
      go_wp2_with (first
        | (go_at_call 11; with_reducible refine (awake_any _).mono ?_; rintro e w1 ⟨rfl, hb⟩))
      go_ret
      exact ⟨rfl, hb⟩
    · have h0 : t = 0 := by omega
      subst h0
      have h1' : 4 ≤ s.size := by omega
      have h2' : s.size ≤ 5000 := by omega
      clear h
      go_enter Try.func6, Try.ntmps6
      go_wp2_with (first
        | (go_at_call 11; with_reducible refine (awake_any _).mono ?_; rintro e w1 ⟨rfl, hb⟩))
      go_ret
      exact ⟨rfl, hb⟩

theorem walk_turn (s : ByteArray) (hM : Hid (s.size ≤ maxLen)) (x : Int) (t : Nat) (h1 : 4 ≤ s.size) (h2 : s.size ≤ 5000) (ht : t < 4294967296) (h0 : ((t : Int) == 0) = false) (w : World) :
    Calls Try.prog 6 #[.string s, .int .i64 x, .int .u32 t] w fun e w' => e = .returned (.bool true) ∧ Below w.heap.size w w' := by
  obtain ⟨k, hk, hkl⟩ := rem_nat x (s.size - 3) (by omega)
  rw [show ((s.size - 3 : Nat) : Int) = (s.size : Int) - 3 by omega] at hk
  have hcv : ∀ W : World, (convert 9 34 (.string s)).run Try.prog W = .ok (.slice (some ⟨W.heap.size, 0, none⟩) s.size (grownCap W s.size 0 5)) (Lib.bytesWorld W 5 s) :=
    fun W => Lib.run_convert_string_bytes W 9 34 5 s Try.underlying9 Try.underlying34 Try.underlying5
  go_enter Try.func6, Try.ntmps6
  go_wp2_with (first
    | (go_at_call 11; with_reducible refine (awake_any _).mono ?_; rintro e w1 ⟨rfl, hb⟩))
  obtain ⟨L, hL0, hlen, hstep, hend⟩ := exists_L s.data.toList k t (by simp; omega) ht (by simpa using h0)
  have HL := Lib.hid (And.intro hL0 (And.intro hlen (And.intro hstep hend)))
  clear hL0 hlen hstep hend
  go_loopw [34] (TurnRel w1 L) (fun i _ => 4 - (intOf i).toNat)
  case atStart => exact ⟨0, by omega, rfl, below_new _ _, HL.out.1 ▸ holds_new w1 s⟩
  case round =>
    obtain ⟨j, hj, rfl, hbr, hH⟩ := hrel
    by_cases hlt : j < 4
    · obtain ⟨c, hc, hL⟩ := HL.out.2.2.1 j hlt
      have hq : k + j < (L j).length := by rw [HL.out.2.1]; simp; omega
      obtain ⟨g1, g2⟩ := hH (k + j) hq
      have hce : (L j)[k + j] = c := by rw [List.getElem?_eq_getElem hq] at hc; exact Option.some.inj hc
      rw [hce] at g1
      have HS := Lib.hid (And.intro hH (And.intro hL hq))
      clear hH hL hq hce hc hcv hk
      have hj4 : j = 0 ∨ j = 1 ∨ j = 2 ∨ j = 3 := by omega
      rcases hj4 with rfl | rfl | rfl | rfl
      all_goals simp only [nat0, nat1, nat2, nat3]
      all_goals try simp only [Nat.add_zero] at g1 g2
      all_goals go_wp2
      · go_region
        go_wp2
        rw [xor_byte0]
        go_roundw
        case rel => exact ⟨1, by omega, rfl, (hbr.setCell (Nat.le_refl _) _).drew, by rw [HS.out.2.1]; exact holds_drew (holds_set HS.out.1 HS.out.2.2 _)⟩
        case measure => simp [intOf]
      · go_region
        go_wp2
        rw [xor_byte1]
        go_roundw
        case rel => exact ⟨2, by omega, rfl, (hbr.setCell (Nat.le_refl _) _).drew, by rw [HS.out.2.1]; exact holds_drew (holds_set HS.out.1 HS.out.2.2 _)⟩
        case measure => simp [intOf]
      · go_region
        go_wp2
        rw [xor_byte2]
        go_roundw
        case rel => exact ⟨3, by omega, rfl, (hbr.setCell (Nat.le_refl _) _).drew, by rw [HS.out.2.1]; exact holds_drew (holds_set HS.out.1 HS.out.2.2 _)⟩
        case measure => simp [intOf]
      · go_region
        go_wp2
        rw [xor_byte3 c t ht]
        go_roundw
        case rel => exact ⟨4, by omega, rfl, (hbr.setCell (Nat.le_refl _) _).drew, by rw [HS.out.2.1]; exact holds_drew (holds_set HS.out.1 HS.out.2.2 _)⟩
        case measure => simp [intOf]
    · obtain rfl : j = 4 := by omega
      have hbk := run_convert_bytes_back (P := Try.prog) wr 34 9 5 ⟨w1.heap.size, 0, none⟩ (grownCap w1 s.size 0 5) (L 4) Try.underlying34 Try.underlying5 Try.underlying9 (fun q hq => by
        rw [add_at]; exact (hH q hq).1)
      rw [show (L 4).length = s.size by rw [HL.out.2.1]; simp] at hbk
      have hz4 : Hid ((⟨(L 4).toArray⟩ : ByteArray).size ≤ maxLen) := by
        have e : (⟨(L 4).toArray⟩ : ByteArray).size = s.size := by show (L 4).toArray.size = _; rw [List.size_toArray, HL.out.2.1]; simp
        rw [e]; exact hM.out
      go_wp2_with (go_at_call 16; with_reducible refine (of_any _ (by first | exact hM.out | exact hz4.out) _).mono ?_; rintro e w3 ⟨rfl, hb2⟩; have hbr := hbr.trans (hb2.mono hbr.size))
      go_ret
      refine ⟨ret_bool ?_, hb.trans (hbr.mono hb.size)⟩
      have hne := HL.out.2.2.2
      simp
      omega
theorem walk (s : ByteArray) (hM : s.size ≤ maxLen) (x : Int) (t : Nat) (ht : t < 4294967296) (w : World) :
    Calls Try.prog 6 #[.string s, .int .i64 x, .int .u32 t] w fun e w' => e = .returned (.bool true) ∧ Below w.heap.size w w' := by
  by_cases h : s.size < 4 ∨ 5000 < s.size ∨ t = 0
  · exact walk_odd s hM x t h w
  · exact walk_turn s hM x t (by omega) (by omega) ht (by simp; omega) w

set_option maxRecDepth 100000 in
theorem lifted (os : Os) (started : os.Started) (H : Type) (enc : TypeId × Value → H) :
    ReturnsInHanded {} Try.checked os 6 .any (Rows.crcTurnsSpec.pre6 enc Try.prog Try.f6 Rows.crcTurnsRow.domain false) (Rows.crcTurnsSpec.post enc Try.prog Try.f6 false true false false) := by
  refine returnsInHanded_of_change (C := Try.checked) own started (by kernel_rfl) Try.func6
    (ChangeSpec.witness6 (enc := enc) (C := Try.checked) false ⟨#[], #[.string .empty, .int .i64 0, .int .u32 0], []⟩ 8 (by kernel_rfl) (by kernel_rfl) (by kernel_rfl) (by kernel_rfl)) ?_
  intro W base args ds gs before hval0 hW hcnd _
  have hval : ∀ (j : Nat) t v, Try.f6.params[j]? = some t → args[j]? = some v → Value.okWide Try.prog W .any base t v := hval0
  have hW' := hW
  obtain ⟨p, q, hA0, hV, rfl, hfz, hnd⟩ := hW
  have hA : DataW.TrodAll enc Try.prog W 0 (fun _ => true) true Try.f6.params.toList args.toList ds p := hA0
  rw [Try.params6] at hA hval
  obtain ⟨v0, vs0, d0, ds0, p0, q0, hargs, rfl, rfl, h0, r0⟩ := trodAll_cons hA
  obtain ⟨v1, vs1, d1, ds1, p1, q1, rfl, rfl, rfl, h1, r1⟩ := trodAll_cons r0
  obtain ⟨v2, vs2, d2, ds2, p2, q2, rfl, rfl, rfl, h2, r2⟩ := trodAll_cons r1
  obtain ⟨rfl, rfl, rfl⟩ := trodAll_nil r2
  obtain rfl : args = #[v0, v1, v2] := by cases args; simp_all
  obtain ⟨s, rfl, rfl, rfl, hmax⟩ := open_string Try.underlying9 (hval 0 9 v0 rfl rfl) h0
  obtain ⟨a1, rfl, rfl, rfl, w1⟩ := open_int Try.underlying3 (hval 1 3 v1 rfl rfl) h1
  obtain ⟨a2, rfl, rfl, rfl, w2⟩ := open_int Try.underlying22 (hval 2 22 v2 rfl rfl) h2
  obtain ⟨t, rfl, ht⟩ := u32_nat w2
  refine (walk s hmax a1 t ht W).mono fun e W' ⟨he, hb⟩ => ?_
  exact ⟨_, he, post_law hW' rfl rfl rfl (by rw [Try.params6]; decide +kernel) hb⟩

theorem proved : Rows.CrcTurnsSaid :=
  OpenClaim.holds_of_wide 6 Try.f6 rfl rfl rfl rfl rfl rfl rfl ⟨rfl, rfl, rfl, rfl, rfl⟩ rfl rfl rfl rfl rfl (by kernel_rfl) Try.func6 (by kernel_rfl)
    (of_decide_eq_true (by kernel_rfl)) (by unfold Func.isWrapper; first | (rw [if_pos (by decide +kernel)]; kernel_rfl) | (rw [if_neg (by decide +kernel)]; exact ⟨rfl, rfl⟩))
    (fun os started H enc _ => lifted os started H enc)
#print axioms proved
end Go.Proofs.Ytalocllapbgcfaa.crcTurns
