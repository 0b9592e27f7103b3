/-
  The law BloomMore, walked. Conditions: as each theorem states.
-/
import Derived.Test.YtmgfgododhplpaaBlE
import Derived.Deep.AppendLies
namespace Go.Proofs.Ytmgfgododhplpaa.Bl
open Go.RowKit
open Crc (ret_int val_int)

theorem infoStr : (Try.prog.info? 9).map (fun i => (i.zero, i.size, i.bytes)) = some (some (.string ⟨#[]⟩), 1, 16) := by kernel_rfl
theorem more_heavy {w : World} (A : Option Addr) (c : Nat) (l : List (List UInt8)) (hlen : l.length ≤ 9223372036854775807) (hsz : ∀ s ∈ l, s.length ≤ 9223372036854775807) (hl : ¬ Light l) (ha : SRow w A l) (key : ByteArray) (hk : key.size ≤ 9223372036854775807) :
    Calls Try.prog 5 #[.slice A l.length c, .string key] w fun e w' => e = .returned (.bool true) ∧ Below w.heap.size w w' := by
  have HA := Lib.hid ha
  have HL := Lib.hid (And.intro hlen (And.intro hsz hl))
  clear ha hlen hsz hl
  go_enter Try.func5, Try.ntmps5
  go_wp2_with (first
    | (go_at_call 6; (with_reducible refine (awake_any _).mono ?_); rintro e w1 ⟨rfl, hb1⟩; have HA1 := Lib.hid (HA.out.below hb1 (Nat.le_refl _)))
    | (go_at_call 7; (with_reducible refine (light_no A c l HL.out.1 HL.out.2.1 HL.out.2.2 HA1.out).mono ?_); rintro e w2 ⟨rfl, rfl⟩))
  go_ret
  exact ⟨rfl, hb1⟩
theorem more_long {w : World} (A : Option Addr) (c : Nat) (l : List (List UInt8)) (hl : Light l) (ha : SRow w A l) (key : ByteArray) (hk : key.size ≤ 9223372036854775807) (hk3 : 300 < key.size) :
    Calls Try.prog 5 #[.slice A l.length c, .string key] w fun e w' => e = .returned (.bool true) ∧ Below w.heap.size w w' := by
  have HA := Lib.hid ha
  have HL := Lib.hid hl
  clear ha hl
  go_enter Try.func5, Try.ntmps5
  go_wp2_with (first
    | (go_at_call 6; (with_reducible refine (awake_any _).mono ?_); rintro e w1 ⟨rfl, hb1⟩; have HA1 := Lib.hid (HA.out.below hb1 (Nat.le_refl _)))
    | (go_at_call 7; (with_reducible refine (light_yes A c l HL.out HA1.out).mono ?_); rintro e w2 ⟨rfl, rfl⟩))
  go_ret
  exact ⟨rfl, hb1⟩
theorem more_few {w : World} (A : Option Addr) (c : Nat) (l : List (List UInt8)) (hl : Light l) (ha : SRow w A l) (key : ByteArray) (hk3 : key.size ≤ 300) (h2 : l.length < 2) :
    Calls Try.prog 5 #[.slice A l.length c, .string key] w fun e w' => e = .returned (.bool true) ∧ Below w.heap.size w w' := by
  have HA := Lib.hid ha
  have HL := Lib.hid hl
  clear ha hl
  go_enter Try.func5, Try.ntmps5
  go_wp2_with (first
    | (go_at_call 6; (with_reducible refine (awake_any _).mono ?_); rintro e w1 ⟨rfl, hb1⟩; have HA1 := Lib.hid (HA.out.below hb1 (Nat.le_refl _)))
    | (go_at_call 7; (with_reducible refine (light_yes A c l HL.out HA1.out).mono ?_); rintro e w2 ⟨rfl, rfl⟩))
  go_ret
  exact ⟨rfl, hb1⟩
def sCells (l : List (List UInt8)) : List Value := l.map fun s => Value.string (bs s)
theorem sCells_len (l : List (List UInt8)) : (sCells l).length = l.length := by simp [sCells]
theorem sCells_one (l : List (List UInt8)) : ∀ u ∈ sCells l, u.oneCell' = true := by
  intro u hu
  obtain ⟨s, _, rfl⟩ := List.mem_map.1 hu
  rfl
theorem srow_cells {w : World} {a : Addr} {l : List (List UInt8)} (h : SRow w (some a) l) : ∀ j u, (sCells l)[j]? = some u → w.cell? (a.add j) = some u := by
  intro j u hj
  have hlt : j < l.length := by
    have := (List.getElem?_eq_some_iff.1 hj).1
    rwa [sCells_len] at this
  obtain ⟨a', e, _, hc⟩ := h (by omega)
  injection e with e
  subst e
  rw [hc j hlt]
  rw [sCells, List.getElem?_map, List.getElem?_eq_getElem hlt] at hj
  simpa using hj
theorem srow_owns {w : World} {B g n cap : Nat} {l : List (List UInt8)} (h : w.ownsRow B 9 1 (.slice (some ⟨g, 0, none⟩) n cap) n (sCells l)) : SRow w (some ⟨g, 0, none⟩) l ∧ l.length = n := by
  have hl : l.length = n := by have := h.1; rw [sCells_len] at this; omega
  refine ⟨fun h0 => ⟨_, rfl, (h.lt g rfl).2, fun i hi => ?_⟩, hl⟩
  exact h.cells rfl i _ (by rw [sCells, List.getElem?_map, List.getElem?_eq_getElem hi]; rfl)
/-- The first key in the places of those from 1 on below k. -/
def same (l : List (List UInt8)) (k : Nat) : List (List UInt8) := (List.range l.length).map fun j => if j < k then l.getD 0 [] else l.getD j []
theorem same_len (l : List (List UInt8)) (k : Nat) : (same l k).length = l.length := by simp [same]
theorem same_one (l : List (List UInt8)) : same l 1 = l := by
  apply List.ext_getElem
  · exact same_len l 1
  · intro i h1 h2
    simp only [same, List.getElem_map, List.getElem_range]
    by_cases e : i < 1
    · obtain rfl : i = 0 := by omega
      simp [List.getD_eq_getElem?_getD, List.getElem?_eq_getElem h2]
    · rw [if_neg e, List.getD_eq_getElem?_getD, List.getElem?_eq_getElem h2]; rfl
theorem same_set (l : List (List UInt8)) (k : Nat) (hk : k < l.length) : (same l k).set k (l.getD 0 []) = same l (k + 1) := by
  apply List.ext_getElem
  · simp [same]
  · intro i h1 h2
    rw [List.getElem_set]
    simp only [same, List.getElem_map, List.getElem_range]
    by_cases e : k = i
    · subst e; simp
    · rw [if_neg e]
      have : (i < k + 1) ↔ (i < k) := by omega
      simp only [this]
theorem same_zero (l : List (List UInt8)) (k : Nat) (h0 : 0 < l.length) : ∃ h : 0 < (same l k).length, (same l k)[0] = l.getD 0 [] := by
  refine ⟨by rw [same_len]; exact h0, ?_⟩
  simp only [same, List.getElem_map, List.getElem_range]
  split <;> rfl
theorem same_mem (l : List (List UInt8)) (k : Nat) (hk : 0 < l.length) : ∀ s ∈ same l k, s ∈ l := by
  intro s hs
  obtain ⟨j, hj, rfl⟩ := List.mem_map.1 hs
  have hj' : j < l.length := List.mem_range.1 hj
  split
  · rw [List.getD_eq_getElem?_getD, List.getElem?_eq_getElem hk]; exact List.getElem_mem hk
  · rw [List.getD_eq_getElem?_getD, List.getElem?_eq_getElem hj']; exact List.getElem_mem hj'
theorem sCells_set (l : List (List UInt8)) (k : Nat) (s : List UInt8) : (sCells l).set k (.string (bs s)) = sCells (l.set k s) := by
  simp [sCells, List.map_set]
theorem make_at {w : World} (A : Option Addr) (c n : Nat) (l : List (List UInt8)) (hn : l.length = n) (hl : Light l) (ha : SRow w A l) :
    Calls Try.prog 9 #[.slice A n c] w fun e w' => e = .returned (.string (bs (mk l))) ∧ Below w.heap.size w w' := by
  subst hn; exact make_any A c l hl.1 hl.2 ha
theorem may_at (F : List UInt8) (key : ByteArray) (hF : F.length ≤ 1000000) (h0 : 0 < F.length) (hk : key.size ≤ 300) (b : Bool) (hb : may F key.data.toList = b) (w : World) :
    Calls Try.prog 15 #[.string (bs F), .string key] w fun e w' => e = .returned (.bool b) ∧ Below w.heap.size w w' := by
  subst hb
  exact may_any (bs F) key (by rw [bs_size]; exact hF) (by rw [bs_size]; exact h0) (by unfold maxLen; omega) w
def MoJ (w : World) (l : List (List UInt8)) (g cap : Nat) (i : Value) (wr : World) : Prop :=
  ∃ k : Nat, 1 ≤ k ∧ k ≤ l.length ∧ i = .int .i64 k ∧ wr.ownsRow w.heap.size 9 1 (.slice (some ⟨g, 0, none⟩) l.length cap) l.length (sCells (same l k)) ∧ Below w.heap.size w wr
theorem below_own2 {w wr w4 : World} {t : TypeId} {s : Nat} {v : Value} {n : Nat} {xs : List Value} (hb : Below w.heap.size w wr) (h : wr.ownsRow w.heap.size t s v n xs) (hg : wr.grownBy w4 v.ownBlock) : Below w.heap.size w w4 :=
  hb.trans ⟨hg.os, hg.tape, hg.output, hg.size, fun k hk => hg.block k (Nat.lt_of_lt_of_le hk hb.size) fun e => by have := (h.lt k e.symm).1; omega⟩
set_option maxRecDepth 100000 in
set_option maxHeartbeats 1000000 in
theorem more_main {w : World} (A : Option Addr) (c : Nat) (l : List (List UInt8)) (hl : Light l) (ha : SRow w A l) (key : ByteArray) (hk3 : key.size ≤ 300) (h2 : 2 ≤ l.length) :
    Calls Try.prog 5 #[.slice A l.length c, .string key] w fun e w' => e = .returned (.bool true) ∧ Below w.heap.size w w' := by
  obtain ⟨a, rfl, hab, _⟩ := ha (by omega)
  have HA := Lib.hid ha
  have HL := Lib.hid hl
  have h100 := hl.1
  obtain ⟨i0, hi, hz0, hz1, hz2⟩ := info_parts infoStr
  have HI := Lib.hid (And.intro hi (And.intro hz0 (And.intro hz1 hz2)))
  clear hi hz0 hz1 hz2 ha hl
  have d1 : decide (300 < (key.size : Int)) = false := by simp; omega
  have d2 : decide ((l.length : Int) < 2) = false := by simp; omega
  obtain ⟨N, hN1, hN2⟩ : ∃ N, (mk l).length = N ∧ (mk (same l l.length)).length = N := ⟨_, rfl, by rw [mk_len, mk_len, same_len]⟩
  have hN3 : N ≤ 1000000 := by rw [← hN1, mk_len]; unfold bitsOf; omega
  have hN4 : 0 < N := by have := bitsOf_pos l.length; rw [← hN1, mk_len]; omega
  have HLS : Hid (Light (same l l.length)) := ⟨by rw [same_len]; exact h100, fun s hs => HL.out.2 s (same_mem l _ (by omega) s hs)⟩
  have hyes : Hid (may (mk (same l l.length)) key.data.toList = true → may (mk l) key.data.toList = true) := fun h => may_more l _ _ (same_len l _) (same_mem l _ (by omega)) h
  have HM1 : Hid (∀ w, SRow w (some a) l → Calls Try.prog 9 #[.slice (some a) l.length c] w fun e w' => e = .returned (.string (bs (mk l))) ∧ Below w.heap.size w w') := fun w h => make_at (some a) c _ l rfl HL.out h
  have HM2 : Hid (∀ w g cap, SRow w (some ⟨g, 0, none⟩) (same l l.length) → Calls Try.prog 9 #[.slice (some ⟨g, 0, none⟩) l.length cap] w fun e w' => e = .returned (.string (bs (mk (same l l.length)))) ∧ Below w.heap.size w w') := fun w g cap h => make_at _ _ _ _ (same_len l _) HLS.out h
  have HY1 : Hid (∀ b, may (mk l) key.data.toList = b → ∀ w, Calls Try.prog 15 #[.string (bs (mk l)), .string key] w fun e w' => e = .returned (.bool b) ∧ Below w.heap.size w w') := fun b hb w => may_at _ key (by rw [hN1]; exact hN3) (by rw [hN1]; exact hN4) hk3 b hb w
  have HY2 : Hid (∀ b, may (mk (same l l.length)) key.data.toList = b → ∀ w, Calls Try.prog 15 #[.string (bs (mk (same l l.length))), .string key] w fun e w' => e = .returned (.bool b) ∧ Below w.heap.size w w') := fun b hb w => may_at _ key (by rw [hN2]; exact hN3) (by rw [hN2]; exact hN4) hk3 b hb w
  generalize hFe : mk l = F at *
  generalize hGe : mk (same l l.length) = G at *
  have hs1 : (bs F).size = N := by rw [bs_size]; exact hN1
  have hs2 : (bs G).size = N := by rw [bs_size]; exact hN2
  clear hN1 hN2 hFe hGe
  go_enter Try.func5, Try.ntmps5
  go_wp2_with (first
    | (go_at_call 6; (with_reducible refine (awake_any _).mono ?_); rintro e w1 ⟨rfl, hb1⟩; have HA1 := Lib.hid (HA.out.below hb1 (Nat.le_refl _)); have HB1 := Lib.hid hb1; clear hb1)
    | (go_at_call 7; (with_reducible refine (light_yes (some a) c l HL.out HA1.out).mono ?_); rintro e w2 ⟨rfl, rfl⟩)
    | (go_at_call 9; (with_reducible refine (HM1.out _ HA1.out).mono ?_); rintro e w3 ⟨rfl, hb3⟩; have HA3 := Lib.hid (HA1.out.below hb3 (Nat.le_refl _)); have HB3 := Lib.hid (HB1.out.trans (hb3.mono HB1.out.size)); have hz3 := HB3.out.size; clear hb3)
    | (at_builtin
       refine wpList_append_lies _ rfl _ _ 22 rfl w.heap.size 9 i0 _ 1 16 Try.underlying22 HI.out.1 HI.out.2.1 HI.out.2.2.1 HI.out.2.2.2 rfl (by decide) (.slice (some ⟨w3.heap.size, 0, none⟩) 0 0) 0 [] rfl (World.ownsRow_lit w3 #[] 0 hz3 (by unfold maxLen; omega) rfl) a l.length c (sCells l) rfl (by rw [sCells_len]; omega) (srow_cells (HA3.out.below ((Below.refl _ w3).alloc (Nat.le_refl _) _) (Nat.le_refl _))) (sCells_one l) (by omega) (by unfold maxLen; omega) (by omega) (by simp; omega) (w3.heap.size + 1) (by simp) ?_
       intro g cap w4 hown4 hgrow4 hwhere hlt4
       have HE := Lib.hid (And.intro hown4 hgrow4)
       clear hown4 hgrow4 hwhere hlt4))
  have HST : MoJ w l g cap (.int .i64 1) w4 := by
    have e1 := HE.out.1
    rw [Nat.zero_add, List.nil_append] at e1
    refine ⟨1, Nat.le_refl _, by omega, rfl, by rw [same_one]; exact e1, ?_⟩
    have h0 : (w3.alloc (.cells #[] 9)).ownsRow w.heap.size 9 1 (.slice (some ⟨w3.heap.size, 0, none⟩) 0 0) 0 [] := World.ownsRow_lit w3 #[] 0 hz3 (by unfold maxLen; omega) rfl
    exact below_own2 (HB3.out.alloc hz3 _) h0 HE.out.2
  clear HE
  go_loopw [7] (fun i wr => MoJ w l g cap i wr) (fun i _ => l.length - (intOf i).toNat)
  case atStart => exact HST
  case round =>
    obtain ⟨k, hk1, hk, rfl, hown, hb⟩ := hrel
    have HO := Lib.hid hown
    have HB := Lib.hid hb
    clear hown hb HST
    by_cases hlt : k < l.length
    · obtain ⟨z0, z1⟩ := same_zero l k (by omega)
      have x0 : wr.cell? ⟨g, 0, none⟩ = some (.string (bs (l.getD 0 []))) := by
        rw [HO.out.cellAt 0 (by omega), sCells, List.getElem?_map, List.getElem?_eq_getElem z0, z1]; rfl
      have x1 : wr.cell? ⟨g, k, none⟩ = some (.string (bs ((same l k)[k]'(by rw [same_len]; exact hlt)))) := by
        rw [HO.out.cellAt k (by omega), sCells, List.getElem?_map, List.getElem?_eq_getElem (by rw [same_len]; exact hlt)]; rfl
      have x2 := HO.out.frozenAt k
      have HST := Lib.hid (HO.out.stored k (.string (bs (l.getD 0 []))))
      have hset := Lib.hid (same_set l k hlt)
      clear z1
      generalize l.getD 0 [] = s0 at *
      go_wp2
      go_roundw
      case rel =>
        refine ⟨k + 1, by omega, by omega, by go_num, ?_, below_own2 HB.out HO.out HST.out.2⟩
        rw [← hset.out, ← sCells_set]
        exact HST.out.1
      case measure => simp [intOf]; omega
    · obtain rfl : k = l.length := by omega
      have HR := Lib.hid (srow_owns HO.out).1
      have hzr := HB.out.size
      cases hm : may G key.data.toList with
      | false =>
        have HY := Lib.hid (HY2.out false hm)
        clear hm
        go_wp2_with (first
          | (go_at_call 9; (with_reducible refine (HM2.out _ _ _ HR.out).mono ?_); rintro e w5 ⟨rfl, hb5⟩; have HR5 := Lib.hid (HR.out.below hb5 (Nat.le_refl _)); have HB5 := Lib.hid (HB.out.trans (hb5.mono HB.out.size)); clear hb5)
          | (go_at_call 9; (with_reducible refine (HM2.out _ _ _ HR5.out).mono ?_); rintro e w6 ⟨rfl, hb6⟩; have HB6 := Lib.hid (HB5.out.trans (hb6.mono HB5.out.size)); clear hb6)
          | (go_at_call 15; (with_reducible refine (HY.out _).mono ?_); rintro e w7 ⟨rfl, hb7⟩; have HB7 := Lib.hid (HB6.out.trans (hb7.mono HB6.out.size)); clear hb7))
        go_ret
        exact ⟨rfl, HB7.out⟩
      | true =>
        have HY := Lib.hid (HY2.out true hm)
        have HX := Lib.hid (HY1.out true (hyes.out hm))
        clear hm
        go_wp2_with (first
          | (go_at_call 9; (with_reducible refine (HM2.out _ _ _ HR.out).mono ?_); rintro e w5 ⟨rfl, hb5⟩; have HR5 := Lib.hid (HR.out.below hb5 (Nat.le_refl _)); have HB5 := Lib.hid (HB.out.trans (hb5.mono HB.out.size)); clear hb5)
          | (go_at_call 9; (with_reducible refine (HM2.out _ _ _ HR5.out).mono ?_); rintro e w6 ⟨rfl, hb6⟩; have HB6 := Lib.hid (HB5.out.trans (hb6.mono HB5.out.size)); clear hb6)
          | (go_at_call 15; (with_reducible refine (HY.out _).mono ?_); rintro e w7 ⟨rfl, hb7⟩; have HB7 := Lib.hid (HB6.out.trans (hb7.mono HB6.out.size)); clear hb7)
          | (go_at_call 15; (with_reducible refine (HX.out _).mono ?_); rintro e w8 ⟨rfl, hb8⟩; have HB8 := Lib.hid (HB7.out.trans (hb8.mono HB7.out.size)); clear hb8))
        go_ret
        exact ⟨rfl, HB8.out⟩
end Go.Proofs.Ytmgfgododhplpaa.Bl
