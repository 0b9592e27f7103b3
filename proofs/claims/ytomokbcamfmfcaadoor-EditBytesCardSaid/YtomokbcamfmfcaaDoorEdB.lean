/-
  The document's own names, walked: Name, Number. Conditions: as each theorem states.
-/
import Derived.Test.YtomokbcamfmfcaaDoorEdA
namespace Go.Proofs.YtomokbcamfmfcaaDoor.Ed
open Go.RowKit Go.Lib Go.Sort
open Go.Proofs.YtomokbcamfmfcaaDoor
open Vi

theorem dig_on {m : Nat} (h : ¬ m < 10) : decDigits m = decDigits (m / 10) ++ [UInt8.ofNat (48 + m % 10)] := by rw [decDigits, dif_neg h]
theorem dig_end {m : Nat} (h : m < 10) : decDigits m = [UInt8.ofNat (48 + m % 10)] := by rw [decDigits, dif_pos h, Nat.mod_eq_of_lt h]
def RnRel (w : World) (N : Nat) (vn vs : Value) (wr : World) : Prop := ∃ (m : Nat) (l : List UInt8), vn = .int .u64 m ∧ vs = .string (bs l) ∧ m < 18446744073709551616 ∧ l.length ≤ 20 ∧ Hid (decDigits m ++ l = decDigits N) ∧ Below w.heap.size w wr
theorem rn_len {m : Nat} {l : List UInt8} {N : Nat} (h : decDigits m ++ l = decDigits N) (hN : N < 18446744073709551616) : l.length ≤ 20 := by
  have := digits_len20 hN
  rw [← h, List.length_append] at this; omega
theorem dig_byte (m : Nat) : 48 + UInt8.ofNat (m % 10) = UInt8.ofNat (48 + m % 10) := by
  apply UInt8.toNat_inj.mp; simp
theorem bs_cons (c : UInt8) (l : List UInt8) : bs [c] ++ bs l = bs (c :: l) := by rw [bs_append]; rfl
set_option maxHeartbeats 1000000 in
set_option maxRecDepth 100000 in
theorem rname_any (kind : List UInt8) (hk : kind.length ≤ 1000) (N : Nat) (hN : N < 18446744073709551616) (w : World) :
    Calls Tryd.prog 10 #[.string (bs kind), .int .u64 N] w (SPost w (nm kind N)) := by
  have z1 : (bs kind).size ≤ 1000 := by rw [bs_size]; exact hk
  have hob := one_byte
  go_enter Tryd.func10, Tryd.ntmps10
  go_wp2
  go_loopw [1, 5] (RnRel w N) (fun vn _ _ => (RowKit.intOf vn).toNat)
  case atStart => exact ⟨N, [], rfl, rfl, hN, by simp, by simp [Hid], Below.refl _ _⟩
  case round =>
    obtain ⟨m, l, rfl, rfl, hm, hl, hd, hb⟩ := hrel
    have z2 : (bs l).size ≤ 20 := by rw [bs_size]; exact hl
    have z3 : (bs [48 + UInt8.ofNat (m % 10)]).size = 1 := bs_size _
    have hc : bs [48 + UInt8.ofNat (m % 10)] ++ bs l = bs ((48 + UInt8.ofNat (m % 10)) :: l) := bs_cons _ _
    have z4 : (bs ((48 + UInt8.ofNat (m % 10)) :: l)).size ≤ 21 := by rw [bs_size, List.length_cons]; omega
    by_cases h10 : m < 10
    · have h0 : ((m : Int) / 10 == 0) = true := by simp; omega
      go_wp2
      go_ret
      refine ⟨?_, hb.alloc hb.size _⟩
      rw [dig_byte, ← nm_eq]
      have e : UInt8.ofNat (48 + m % 10) :: l = decDigits N := by rw [← hd.out, dig_end h10]; rfl
      rw [e]
      rfl
    · have h0 : ((m : Int) / 10 == 0) = false := by simp; omega
      have hd2 : Hid (decDigits (m / 10) ++ (UInt8.ofNat (48 + m % 10) :: l) = decDigits N) := by rw [Hid, ← hd.out, dig_on h10]; simp
      go_wp2
      go_roundw
      case rel => exact ⟨m / 10, UInt8.ofNat (48 + m % 10) :: l, by go_num, by rw [dig_byte], by omega, rn_len hd2 hN, hd2, hb.alloc hb.size _⟩
      case measure => simp [RowKit.intOf]; omega

theorem number_off {kind name : List UInt8} (h : ¬ (kind ++ [45]) <+: name) : number kind name = none := by
  unfold number Lib.hasPrefix
  rw [if_neg]
  intro h'; exact h (List.isPrefixOf_iff_prefix.1 h')
theorem number_on (kind D : List UInt8) : number kind ((kind ++ [45]) ++ D) = match Lib.parseUintB 64 D with
      | .ok u => if nm kind u = (kind ++ [45]) ++ D then some u else none
      | _ => none := by
  have h1 : Lib.hasPrefix ((kind ++ [45]) ++ D) (kind ++ [45]) = true := by
    unfold Lib.hasPrefix; exact List.isPrefixOf_iff_prefix.2 (List.prefix_append _ _)
  have h2 : Lib.trimPrefix ((kind ++ [45]) ++ D) (kind ++ [45]) = D := by
    unfold Lib.trimPrefix; rw [if_pos h1]; simp
  unfold number; rw [if_pos h1, h2]
  cases Lib.parseUintB 64 D <;> rfl
theorem number_short {kind name : List UInt8} (h : name.length ≤ kind.length + 1) : number kind name = none := by
  by_cases hp : (kind ++ [45]) <+: name
  · obtain ⟨D, rfl⟩ := hp
    have : D = [] := by
      simp at h; exact h
    subst this
    rw [number_on]; rfl
  · exact number_off hp
theorem ext_take (l : List UInt8) (k : Nat) : ((bs l).extract 0 k).toList = l.take k := by
  rw [Lib.toList_data, ByteArray.data_extract]
  simp [bs]
theorem kind_list (kind : List UInt8) : (bs kind ++ ⟨#[45]⟩).toList = kind ++ [45] := by
  have e : bs kind ++ ⟨#[45]⟩ = bs (kind ++ [45]) := by rw [← bs_append]; rfl
  rw [e, bs_list]
set_option maxHeartbeats 1000000 in
set_option maxRecDepth 100000 in
theorem rnumber_short (kind name : List UInt8) (hk : kind.length ≤ 1000) (hn : name.length ≤ 10000) (h : name.length ≤ kind.length + 1) (w : World) :
    Calls Tryd.prog 8 #[.string (bs kind), .string (bs name)] w (NuPost w (number kind name)) := by
  rw [number_short h]
  have z1 := bs_size kind
  have z2 := bs_size name
  go_enter Tryd.func8, Tryd.ntmps8
  go_wp2
  go_ret2
  exact ⟨rfl, Below.refl _ _⟩
set_option maxHeartbeats 1000000 in
set_option maxRecDepth 100000 in
theorem rnumber_off (kind name : List UInt8) (hk : kind.length ≤ 1000) (hn : name.length ≤ 10000) (h : ¬ name.length ≤ kind.length + 1) (hp : ¬ (kind ++ [45]) <+: name) (w : World) :
    Calls Tryd.prog 8 #[.string (bs kind), .string (bs name)] w (NuPost w (number kind name)) := by
  rw [number_off hp]
  have z1 := bs_size kind
  have z2 := bs_size name
  have hse : (((bs name).extract 0 (kind.length + 1)).toList == (bs kind ++ ⟨#[45]⟩).toList) = false := by
    rw [ext_take, kind_list]
    simp only [beq_eq_false_iff_ne]
    intro he
    exact hp ⟨name.drop (kind.length + 1), by rw [← he, List.take_append_drop]⟩
  go_enter Tryd.func8, Tryd.ntmps8
  go_wp2
  go_ret2
  exact ⟨rfl, Below.refl _ _⟩
theorem number_drop {kind name : List UInt8} (hp : (kind ++ [45]) <+: name) : number kind name = match Lib.parseUintB 64 (name.drop (kind.length + 1)) with
      | .ok u => if nm kind u = name then some u else none
      | _ => none := by
  obtain ⟨D, rfl⟩ := hp
  rw [number_on]
  have e : ((kind ++ [45]) ++ D).drop (kind.length + 1) = D := by
    rw [show kind.length + 1 = (kind ++ [45]).length by simp, List.drop_left']
    rfl
  rw [e]
theorem number_bad {kind name : List UInt8} (hp : (kind ++ [45]) <+: name) (h : ∀ u, Lib.parseUintB 64 (name.drop (kind.length + 1)) ≠ .ok u) : number kind name = none := by
  rw [number_drop hp]
  split
  · rename_i u h'; exact absurd h' (h u)
  · rfl
abbrev MaxU : Nat := 2 ^ 64 - 1
def RuRel (w : World) (k : Nat) (name : List UInt8) (vn vi : Value) (wr : World) : Prop :=
  ∃ (n i : Nat), vn = .int .u64 n ∧ vi = .int .i64 i ∧ k ≤ i ∧ i ≤ name.length ∧ n ≤ MaxU ∧ Hid (Lib.parseUintB 64 (name.drop k) = Lib.parseUintM MaxU n (name.drop i)) ∧ wr = w
theorem ru_start {name : List UInt8} {k : Nat} (h : k < name.length) : Lib.parseUintB 64 (name.drop k) = Lib.parseUintM MaxU 0 (name.drop k) := by
  unfold Lib.parseUintB
  rw [if_neg]
  intro h'
  have := congrArg List.length h'
  rw [List.length_drop, List.length_nil] at this
  omega
theorem ru_bad {n : Nat} {c : UInt8} {r : List UInt8} (hn : n ≤ MaxU) (h : ¬ ((48 ≤ c.toNat ∧ c.toNat ≤ 57) ∧ n ≤ 1844674407370955161 ∧ (n = 1844674407370955161 → c.toNat ≤ 53))) (u : Nat) : Lib.parseUintM MaxU n (c :: r) ≠ .ok u := by
  rw [Lib.parseUintM]
  split
  · split
    · intro h'; cases h'
    · split
      · intro h'; cases h'
      · unfold MaxU at *; omega
  · intro h'; cases h'
theorem ru_on {n : Nat} {c : UInt8} {r : List UInt8} (h1 : 48 ≤ c.toNat ∧ c.toNat ≤ 57) (h2 : n ≤ 1844674407370955161) (h3 : n = 1844674407370955161 → c.toNat ≤ 53) : Lib.parseUintM MaxU n (c :: r) = Lib.parseUintM MaxU (n * 10 + (c.toNat - 48)) r := by
  rw [Lib.parseUintM, if_pos h1, if_neg (by omega), if_neg (by unfold MaxU; omega)]
theorem ru_next {w : World} {k : Nat} {name : List UInt8} {n i : Nat} {x y : Int} (hki : k ≤ i) (hi : i < name.length) (hpm : Hid (Lib.parseUintB 64 (name.drop k) = Lib.parseUintM MaxU n (name.drop i)))
    (h1 : 48 ≤ (bs name)[i]!.toNat ∧ (bs name)[i]!.toNat ≤ 57) (h2 : n ≤ 1844674407370955161) (h3 : n = 1844674407370955161 → (bs name)[i]!.toNat ≤ 53)
    (hd : name.drop i = (bs name)[i]! :: name.drop (i + 1)) (hx : x = n * 10 + ((bs name)[i]!.toNat - 48)) (hy : y = i + 1) : RuRel w k name (.int .u64 x) (.int .i64 y) w := by
  refine ⟨n * 10 + ((bs name)[i]!.toNat - 48), i + 1, ?_, ?_, by omega, by omega, ?_, ?_, rfl⟩
  · rw [hx]; congr 1; omega
  · rw [hy]; rfl
  · unfold MaxU; omega
  · rw [Hid, hpm.out, hd, ru_on h1 h2 h3]
set_option maxHeartbeats 1000000 in
set_option maxRecDepth 100000 in
theorem rnumber_on (kind name : List UInt8) (hk : kind.length ≤ 1000) (hn : name.length ≤ 10000) (h : ¬ name.length ≤ kind.length + 1) (hp : (kind ++ [45]) <+: name) (w : World) :
    Calls Tryd.prog 8 #[.string (bs kind), .string (bs name)] w (NuPost w (number kind name)) := by
  have z1 := bs_size kind
  have z2 := bs_size name
  have hse : (((bs name).extract 0 (kind.length + 1)).toList == (bs kind ++ ⟨#[45]⟩).toList) = true := by
    obtain ⟨D, rfl⟩ := hp
    rw [ext_take, kind_list]
    simp only [beq_iff_eq]
    rw [show kind.length + 1 = (kind ++ [45]).length by simp, List.take_left']
    rfl
  go_enter Tryd.func8, Tryd.ntmps8
  go_wp2
  go_loopw [7, 8] (RuRel w (kind.length + 1) name) (fun _ vi _ => name.length - (RowKit.intOf vi).toNat)
  case atStart => exact ⟨0, kind.length + 1, rfl, by go_num, Nat.le_refl _, by omega, by decide, ru_start (by omega), rfl⟩
  case round =>
    obtain ⟨n, i, rfl, rfl, hki, hin, hnM, hpm, rfl⟩ := hrel
    by_cases hlt : i < name.length
    · have hlt2 : i < (bs name).size := by rw [bs_size]; exact hlt
      have hd : name.drop i = (bs name)[i]! :: name.drop (i + 1) := by
        have := drop_at (bs name) i hlt2
        rw [getElem!_pos (bs name) i hlt2]
        exact this
      have hbang : (bs name)[i]! = (bs name)[i] := getElem!_pos (bs name) i hlt2
      by_cases hg : (48 ≤ (bs name)[i]!.toNat ∧ (bs name)[i]!.toNat ≤ 57) ∧ n ≤ 1844674407370955161 ∧ (n = 1844674407370955161 → (bs name)[i]!.toNat ≤ 53)
      · have hnx := Lib.hid fun (x y : Int) (hx : x = n * 10 + ((bs name)[i]!.toNat - 48)) (hy : y = i + 1) => ru_next (w := wr) hki hlt hpm hg.1 hg.2.1 hg.2.2 hd hx hy
        rw [hbang] at hg hnx
        clear hd hpm hbang
        obtain ⟨g1, g2, g3⟩ := hg
        by_cases g4 : n = 1844674407370955161
        · have g5 := g3 g4
          clear g3
          subst g4
          go_wp2
          refine ⟨hnx.out _ _ (by omega) rfl, ?_⟩
          simp [RowKit.intOf]; omega
        · clear g3
          go_wp2
          refine ⟨hnx.out _ _ (by omega) rfl, ?_⟩
          simp [RowKit.intOf]; omega
      · have hno : number kind name = none := number_bad hp fun u => by rw [hpm.out, hd]; exact ru_bad hnM hg u
        rw [hno]
        rw [hbang] at hg
        clear hd hpm hbang hno hp
        go_wp2
        all_goals
          go_ret2
          exact ⟨rfl, Below.refl _ _⟩
    · have hi2 : i = name.length := by omega
      subst hi2
      have hpu : Lib.parseUintB 64 (name.drop (kind.length + 1)) = .ok n := by rw [hpm.out, List.drop_length]; rfl
      have hno : number kind name = if nm kind n = name then some n else none := by rw [number_drop hp, hpu]
      have HN := Lib.hid (rname_any kind hk n (by unfold MaxU at hnM; omega))
      clear hpu hpm hp
      by_cases he : nm kind n = name
      · have HNO : Hid (number kind name = some n) := by rw [Hid, hno, if_pos he]
        clear hno
        rw [he] at HN
        have hse2 : ((bs name).toList == (bs name).toList) = true := beq_self_eq_true _
        go_wp2_with (go_at_call 10; (with_reducible refine (HN.out _).mono ?_); rintro e w2 ⟨rfl, hb2⟩)
        go_ret2
        exact ⟨by rw [HNO.out]; rfl, hb2⟩
      · have HNO : Hid (number kind name = none) := by rw [Hid, hno, if_neg he]
        have hne : ((bs (nm kind n)).toList == (bs name).toList) = false := by rw [bs_list, bs_list]; simpa using he
        clear hno he
        go_wp2_with (go_at_call 10; (with_reducible refine (HN.out _).mono ?_); rintro e w2 ⟨rfl, hb2⟩)
        go_ret2
        exact ⟨by rw [HNO.out]; rfl, hb2⟩
theorem rnumber_any (kind name : List UInt8) (hk : kind.length ≤ 1000) (hn : name.length ≤ 10000) (w : World) :
    Calls Tryd.prog 8 #[.string (bs kind), .string (bs name)] w (NuPost w (number kind name)) := by
  by_cases h : name.length ≤ kind.length + 1
  · exact rnumber_short kind name hk hn h w
  · by_cases hp : (kind ++ [45]) <+: name
    · exact rnumber_on kind name hk hn h hp w
    · exact rnumber_off kind name hk hn h hp w
end Go.Proofs.YtomokbcamfmfcaaDoor.Ed
