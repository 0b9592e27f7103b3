/-
  The document's own keys, walked: the parts of a key. Conditions: as each theorem states.
-/
import Derived.Test.YtelbhegkaihjhaaDoorKmE
import Derived.Test.YtelbhegkaihjhaaDoorKmF
namespace Go.Proofs.YtelbhegkaihjhaaDoor
open Go.RowKit
open Vi

theorem str_facts {S : ByteArray} {d : UInt8} {r : List UInt8} (h : S = bs (d :: r)) : S.size = r.length + 1 ∧ (∀ h0 : 0 < S.size, (S[0]'h0).toNat = d.toNat) ∧ S.extract 1 (r.length + 1) = bs r ∧ S.extract 0 1 = bs [d] := by
  have hz : S.size = r.length + 1 := by rw [h, bs_size]; rfl
  have h0 : 0 < S.size := by omega
  have h1 : S[0]'h0 = d := by subst h; rfl
  refine ⟨hz, fun _ => by rw [h1], ?_, ?_⟩
  · rw [← hz, ext_from]; subst h; rfl
  · have := ext_one (s := S) (q := 0) h0
    rw [h1] at this; exact this
theorem str_facts2 {S : ByteArray} {d e : UInt8} {r : List UInt8} (h : S = bs (d :: e :: r)) : (∀ h1 : 1 < S.size, (S[1]'h1).toNat = e.toNat) ∧ S.extract 2 (r.length + 1 + 1) = bs r ∧ S.size = r.length + 1 + 1 := by
  have hz : S.size = r.length + 1 + 1 := by rw [h, bs_size]; rfl
  refine ⟨fun h1 => by subst h; rfl, ?_, hz⟩
  rw [← hz, ext_from]; subst h; rfl
theorem str_drop {S : ByteArray} {l : List UInt8} (h : S = bs l) (k : Nat) : S.extract k S.size = bs (l.drop k) := by
  rw [ext_from]; subst h; rfl
theorem str_nil {S : ByteArray} (h : S = bs []) : S.size = 0 := by rw [h]; rfl
def RPtJ (K : List UInt8) (w : World) (k v : Value) (wr : World) : Prop :=
  ∃ (a : List KPart) (l : List UInt8) (S : ByteArray), (pparts l).map (a ++ ·) = pparts K ∧ a.length + l.length ≤ K.length ∧ S = bs l ∧ k = .string S ∧ wr.ownsRow w.heap.size 46 4 v a.length (a.flatMap KPart.cells) ∧ Below w.heap.size w wr
def RTxJ (w : World) (a : List KPart) (v : Value) (k0 : Nat) (l0 : List UInt8) (k : Value) (W : World) : Prop :=
  ∃ (s r : List UInt8) (S : ByteArray), ahead s (unesc r) = unesc l0 ∧ s.length + r.length ≤ l0.length ∧ S = bs r ∧ k = .string S ∧ PW w a v k0 #[.int .u8 116, .int .i64 0, .int .u64 0, .string (bs s)] 46 W
def RPartsPost (K : List UInt8) (w : World) (e : Ending) (w' : World) : Prop :=
  ((∃ v a, e = .returned (.tuple #[v, .int .i64 0]) ∧ K.length ≤ 200 ∧ pparts K = some a ∧ w'.ownsRow w.heap.size 46 4 v a.length (a.flatMap KPart.cells)) ∨
    (e = .returned (.tuple #[.slice none 0 0, .int .i64 19]) ∧ (200 < K.length ∨ pparts K = none))) ∧ Below w.heap.size w w'
set_option maxRecDepth 100000 in
set_option maxHeartbeats 8000000 in
theorem rparts_any {w : World} (K : List UInt8) (hK : K.length ≤ 1000) :
    Calls Tryd.prog 27 #[.string (bs K)] w (RPartsPost K w) := by
  have hbz := bs_size
  by_cases h2 : 200 < K.length
  · go_enter Tryd.func27, Tryd.ntmps27
    go_wp2
    go_ret2
    exact ⟨.inr ⟨rfl, .inl h2⟩, Below.refl _ _⟩
  obtain ⟨i0, hi, hz0, hz1, hz2⟩ := info_parts infoRPart
  have HI := Lib.hid (And.intro hi (And.intro hz0 (And.intro hz1 hz2)))
  clear hi hz0 hz1 hz2
  go_enter Tryd.func27, Tryd.ntmps27
  go_wp2
  go_loopw [0, 4] (RPtJ K w) (fun k _ _ => strLen k)
  case atStart => exact ⟨[], K, bs K, by cases pparts K <;> rfl, by simp, rfl, rfl, World.ownsRow_nil _ _ _ _, Below.refl _ _⟩
  case round =>
    obtain ⟨a, l, S, hu, hl, hS, rfl, hown, hb⟩ := hrel
    match l with
    | [] =>
      have hz := str_nil hS
      have HU : Hid (pparts K = some a) := by show _ = _; rw [← hu, pparts_nil]; simp
      have HO := Lib.hid hown
      have HB := Lib.hid hb
      clear hu hS hown hb
      go_wp2
      go_ret2
      exact ⟨.inl ⟨_, a, rfl, by omega, HU.out, HO.out⟩, HB.out⟩
    | c :: l0 =>
      obtain ⟨z1, z2, z3, z4⟩ := str_facts hS
      have HO := Lib.hid hown
      have HB := Lib.hid hb
      have hlc : a.length + (l0.length + 1) ≤ 200 := by simp at hl; omega
      have hlk : a.length + (l0.length + 1) ≤ K.length := by simp at hl; omega
      clear hS z4 hl hown hb
      by_cases c1 : c = 116
      · subst c1
        have HNone : Hid (unesc l0 = none → pparts K = none) := fun h => by rw [← hu, pparts_none (by simp) (by rw [pfirst_t, h]; rfl)]; rfl
        have HSome : Hid (∀ s r, unesc l0 = some (s, r) → (pparts r).map ((a ++ [kText (bs s)]) ++ ·) = pparts K) := fun s r h => by
          rw [← hu, pparts_some (show pfirst (116 :: l0) = some (kText (bs s), r) by rw [pfirst_t, h]; rfl)]; cases pparts r <;> simp
        have B0 := Lib.hid (pw_start HO.out HB.out #[.int .u8 116, .int .i64 0, .int .u64 0, .string ⟨#[]⟩] 46)
        have hkk := HB.out.size
        replace z2 : ∀ h0 : 0 < S.size, (S[0]'h0).toNat = 116 := fun h0 => by rw [z2 h0]; rfl
        replace z3 := Lib.hid z3
        have HZ := Lib.hid z1
        clear hu
        go_wp2
        go_loopw [0] (RTxJ w a u4 wr.heap.size l0) (fun k _ => strLen k)
        case atStart => exact ⟨[], l0, _, ahead_nil _, by simp, z3.out, rfl, B0.out⟩
        case round =>
          clear B0 z1 z2 z3 HO HB
          obtain ⟨s, r, S2, hu2, hl2, hS2, rfl, P⟩ := hrel
          replace P := Lib.hid P
          obtain ⟨⟨y0, y1, y2, y3⟩, y4⟩ := rcells4 P.out.ab
          match r with
          | [] =>
            have hz := str_nil hS2
            have HN := Lib.hid (HNone.out (by rw [← hu2]; rfl))
            clear hu2 hS2
            go_wp2
            go_ret2
            exact ⟨.inr ⟨rfl, .inr HN.out⟩, P.out.below⟩
          | d :: r' =>
            obtain ⟨z1, z2, z3, z4⟩ := str_facts hS2
            by_cases d0 : d = 0
            · subst d0
              match r' with
              | [] =>
                have HN := Lib.hid (HNone.out (by rw [← hu2, unesc_stop]; rfl))
                replace z2 : ∀ h0 : 0 < S2.size, (S2[0]'h0).toNat = 0 := fun h0 => by rw [z2 h0]; rfl
                replace z1 : S2.size = 1 := z1
                clear hu2 hS2 z3 z4
                go_wp2
                go_ret2
                exact ⟨.inr ⟨rfl, .inr HN.out⟩, P.out.below⟩
              | e :: r2 =>
                obtain ⟨z5, z6, z7⟩ := str_facts2 hS2
                replace z2 : ∀ h0 : 0 < S2.size, (S2[0]'h0).toNat = 0 := fun h0 => by rw [z2 h0]; rfl
                replace z6 := Lib.hid z6
                have hl3 : s.length + r2.length + 2 ≤ l0.length := by simp at hl2; omega
                have hcat := bs_append
                have q0 : (⟨#[0]⟩ : ByteArray) = bs [0] := rfl
                have hsz := pw_size P.out
                have hkw := P.out.kk
                clear z1 z3 z4 hl2 hS2
                by_cases e0 : e = 0
                · subst e0
                  have HS := Lib.hid (HSome.out s r2 (by rw [← hu2, unesc_end]; simp [ahead]))
                  replace z5 : ∀ h1 : 1 < S2.size, (S2[1]'h1).toNat = 0 := fun h1 => by rw [z5 h1]; rfl
                  clear hu2
                  go_wp2_with (first
                    | (at_builtin
                       refine wpList_append_lies _ rfl _ _ 48 rfl w.heap.size 46 i0 _ 4 40 Tryd.underlying48 HI.out.1 HI.out.2.1 HI.out.2.2.1 HI.out.2.2.2 rfl (by decide) u4 a.length (a.flatMap KPart.cells) rfl (P.out.own.alloc _) ⟨wr.heap.size, 0, none⟩ 1 1 [.int .u8 116, .int .i64 0, .int .u64 0, .string (bs s)] rfl rfl (rnews _ _ (by simp) _ _ _ _ _) (by simp [Value.oneCell']) (by omega) (by unfold maxLen; omega) (by omega) (by simp; omega) (wr.heap.size + 1) (by simp) ?_
                       intro g cap w4 hown4 hgrow4 hwhere hlt4
                       have HE := Lib.hid (And.intro hown4 hgrow4)
                       clear hown4 hgrow4 hwhere hlt4))
                  go_roundw
                  case rel => exact ⟨a ++ [kText (bs s)], r2, _, HS.out, by simp; omega, z6.out, rfl, by rw [List.flatMap_append, List.length_append]; simpa [KPart.cells, kText] using HE.out.1, rbelow_grown (P.out.below.alloc P.out.below.size _) (P.out.own.alloc _) HE.out.2⟩
                  case measure => first | (simp [strLen, HZ.out]; done) | (simp [strLen, HZ.out]; omega) | (simp [strLen, HZ.out]; rw [z6.out, bs_size]; omega)
                · have he0 : ((e.toNat : Int) == 0) = false := by
                    have : ¬ e.toNat = 0 := fun h => e0 (toNat_eq (by rw [h]; rfl))
                    simp; omega
                  by_cases e1 : e = 255
                  · subst e1
                    replace z5 : ∀ h1 : 1 < S2.size, (S2[1]'h1).toNat = 255 := fun h1 => by rw [z5 h1]; rfl
                    have HU : Hid (ahead (s ++ [0]) (unesc r2) = unesc l0) := by
                      rw [Hid, ← hu2, unesc_on, ← ahead_ahead]; rfl
                    clear hu2 he0
                    go_wp2
                    go_roundw
                    case rel => exact ⟨s ++ [0], r2, _, HU.out, by simp; omega, z6.out, rfl, by first | exact pw_set P.out 3 _ | exact pw_set (pw_drew P.out) 3 _⟩
                    case measure => first | (simp [strLen, z7]; done) | (simp [strLen, z7]; omega) | (simp [strLen, z7]; rw [z6.out, bs_size]; omega)
                  · have he1 : ((e.toNat : Int) == 255) = false := by
                      have : ¬ e.toNat = 255 := fun h => e1 (toNat_eq (by rw [h]; rfl))
                      simp; omega
                    have HN := Lib.hid (HNone.out (by rw [← hu2, unesc_bad e0 e1]; rfl))
                    have he0b : ((e.toNat : Int) != 0) = true := by simp [bne, he0]
                    have he1b : ((e.toNat : Int) != 255) = true := by simp [bne, he1]
                    clear hu2
                    go_wp2
                    go_ret2
                    exact ⟨.inr ⟨rfl, .inr HN.out⟩, P.out.below⟩
            · have hne : ((d.toNat : Int) == 0) = false := by
                have : ¬ d.toNat = 0 := fun e => d0 (toNat_eq (by rw [e]; rfl))
                simp; omega
              have HU : Hid (ahead (s ++ [d]) (unesc r') = unesc l0) := by
                rw [Hid, ← hu2, unesc_other d0, ← ahead_ahead]; rfl
              have hl3 : s.length + r'.length + 1 ≤ l0.length := by simp at hl2; omega
              have hne2 : (d.toNat : Int) ≠ 0 := by simpa using hne
              replace z3 := Lib.hid z3
              have hcat := bs_append
              clear hu2 hS2 hl2 d0
              go_wp2
              go_region
              all_goals
                go_wp2
                go_roundw
                case rel => exact ⟨s ++ [d], r', _, HU.out, by simp; omega, z3.out, rfl, by first | exact pw_set P.out 3 _ | exact pw_set (pw_drew P.out) 3 _⟩
                case measure => first | (simp [strLen, z1]; done) | (simp [strLen, z1]; rw [z3.out, bs_size]; omega)
      · have HNone : Hid (pfirst (c :: l0) = none → pparts K = none) := fun h => by rw [← hu, pparts_none (by simp) h]; rfl
        have HSome : Hid (∀ p r, pfirst (c :: l0) = some (p, r) → (pparts r).map ((a ++ [p]) ++ ·) = pparts K) := fun p r h => by
          rw [← hu, pparts_some h]; cases pparts r <;> simp
        have hcn : ¬ c.toNat = 116 := fun h => c1 (toNat_eq (by rw [h]; rfl))
        have k4 : ((c.toNat : Int) == 116) = false := by simp; omega
        have hkk := HB.out.size
        have HZ := Lib.hid z1
        clear hu
        by_cases h8 : l0.length < 8
        · have HN := Lib.hid (HNone.out (pfirst_short c1 h8))
          have hz3 : (S.extract 1 (l0.length + 1)).size = l0.length := by rw [z3, bs_size]
          clear z3
          go_wp2
          go_ret2
          exact ⟨.inr ⟨rfl, .inr HN.out⟩, HB.out.alloc HB.out.size _⟩
        · obtain ⟨S1, hS1⟩ : ∃ S1, S1 = S.extract 1 (l0.length + 1) := ⟨_, rfl⟩
          have hz3 : S1.size = l0.length := by rw [hS1, z3, bs_size]
          have hb1 : S1 = bs l0 := by rw [hS1, z3]
          have z8 := Lib.hid (str_drop hb1 8)
          have NM := rnum_at (s := S1) (by omega)
          have e8 : be8 S1.data.toList = be8 l0 := by rw [hb1, bs_toList]
          rw [e8] at NM
          rw [hz3] at z8
          have hlt := be8_lt l0
          have hSx := hS1.symm
          clear hS1 hb1 z3 e8
          by_cases c5 : c = 105
          · subst c5
            replace z2 : ∀ h0 : 0 < S.size, (S[0]'h0).toNat = 105 := fun h0 => by rw [z2 h0]; rfl
            have HS := Lib.hid (HSome.out (kUp ((be8 l0 : Int) - 9223372036854775808)) (l0.drop 8) (by rw [pfirst_i (by omega)]))
            clear HNone HSome k4 hcn c1
            generalize be8 l0 = N at HS NM hlt
            have DR := Lib.hid (drop_any N hlt)
            have B1 := Lib.hid (pw_start HO.out HB.out #[.int .u8 105, .int .i64 ((N : Int) - 9223372036854775808), .int .u64 0, .string ⟨#[]⟩] 46)
            replace hlt := Lib.hid hlt
            replace NM := Lib.hid NM
            go_wp2_with (first
              | (go_at_call 41; (with_reducible refine (NM.out _).mono ?_); rintro e w1 ⟨rfl, rfl⟩)
              | (go_at_call 42; (with_reducible first | refine (DR.out _).mono ?_); rintro e w2 ⟨rfl, rfl⟩)
              | (at_builtin
                 refine wpList_append_lies _ rfl _ _ 48 rfl w.heap.size 46 i0 _ 4 40 Tryd.underlying48 HI.out.1 HI.out.2.1 HI.out.2.2.1 HI.out.2.2.2 rfl (by decide) u4 a.length (a.flatMap KPart.cells) rfl (B1.out.own.alloc _) ⟨wr.heap.size + 1, 0, none⟩ 1 1 [.int .u8 105, .int .i64 ((N : Int) - 9223372036854775808), .int .u64 0, .string ⟨#[]⟩] rfl rfl (rnews _ _ (by simp) _ _ _ _ _) (by simp [Value.oneCell']) (by omega) (by unfold maxLen; omega) (by omega) (by simp; omega) (wr.heap.size + 2) (by simp) ?_
                 intro g cap w4 hown4 hgrow4 hwhere hlt4
                 have HE := Lib.hid (And.intro hown4 hgrow4)
                 clear hown4 hgrow4 hwhere hlt4))
            go_roundw
            case rel => exact ⟨a ++ [kUp ((N : Int) - 9223372036854775808)], l0.drop 8, _, HS.out, by simp; omega, z8.out, rfl, by rw [List.flatMap_append, List.length_append]; simpa [KPart.cells, kUp, kDown, kCount] using HE.out.1, rbelow_grown (B1.out.below.alloc B1.out.below.size _) (B1.out.own.alloc _) HE.out.2⟩
            case measure => first | (simp [strLen, HZ.out]; done) | (simp [strLen, HZ.out]; omega) | (simp [strLen, HZ.out]; rw [z8.out, bs_size]; simp; omega)
          · by_cases c6 : c = 100
            · subst c6
              replace z2 : ∀ h0 : 0 < S.size, (S[0]'h0).toNat = 100 := fun h0 => by rw [z2 h0]; rfl
              have HS := Lib.hid (HSome.out (kDown (9223372036854775807 - (be8 l0 : Int))) (l0.drop 8) (by rw [pfirst_d (by omega)]))
              clear HNone HSome k4 hcn c1
              generalize be8 l0 = N at HS NM hlt
              have DD : Hid (∀ W, Calls Tryd.prog 42 #[.int .u64 (18446744073709551615 - (N : Int))] W fun e w' => e = .returned (.int .i64 (9223372036854775807 - (N : Int))) ∧ W = w') := fun W => by
                have h1 := drop_any (18446744073709551615 - N) (by omega) W
                rw [show ((18446744073709551615 - N : Nat) : Int) = 18446744073709551615 - (N : Int) by omega, show (18446744073709551615 - (N : Int)) - 9223372036854775808 = 9223372036854775807 - (N : Int) by omega] at h1
                exact h1
              have DD2 : Hid (∀ W, Calls Tryd.prog 42 #[.int .u64 (IntKind.u64.wrap (18446744073709551615 - (N : Int)))] W fun e w' => e = .returned (.int .i64 (9223372036854775807 - (N : Int))) ∧ W = w') := fun W => by
                rw [show IntKind.u64.wrap (18446744073709551615 - (N : Int)) = 18446744073709551615 - (N : Int) by rw [IntKind.wrap_u64]; omega]
                exact DD.out W
              have B1 := Lib.hid (pw_start HO.out HB.out #[.int .u8 100, .int .i64 (9223372036854775807 - (N : Int)), .int .u64 0, .string ⟨#[]⟩] 46)
              replace hlt := Lib.hid hlt
              replace NM := Lib.hid NM
              go_wp2_with (first
                | (go_at_call 41; (with_reducible refine (NM.out _).mono ?_); rintro e w1 ⟨rfl, rfl⟩)
                | (go_at_call 42; (with_reducible first | refine (DD.out _).mono ?_ | refine (DD2.out _).mono ?_); rintro e w2 ⟨rfl, rfl⟩)
                | (at_builtin
                   refine wpList_append_lies _ rfl _ _ 48 rfl w.heap.size 46 i0 _ 4 40 Tryd.underlying48 HI.out.1 HI.out.2.1 HI.out.2.2.1 HI.out.2.2.2 rfl (by decide) u4 a.length (a.flatMap KPart.cells) rfl (B1.out.own.alloc _) ⟨wr.heap.size + 1, 0, none⟩ 1 1 [.int .u8 100, .int .i64 (9223372036854775807 - (N : Int)), .int .u64 0, .string ⟨#[]⟩] rfl rfl (rnews _ _ (by simp) _ _ _ _ _) (by simp [Value.oneCell']) (by omega) (by unfold maxLen; omega) (by omega) (by simp; omega) (wr.heap.size + 2) (by simp) ?_
                   intro g cap w4 hown4 hgrow4 hwhere hlt4
                   have HE := Lib.hid (And.intro hown4 hgrow4)
                   clear hown4 hgrow4 hwhere hlt4))
              go_roundw
              case rel => exact ⟨a ++ [kDown (9223372036854775807 - (N : Int))], l0.drop 8, _, HS.out, by simp; omega, z8.out, rfl, by rw [List.flatMap_append, List.length_append]; simpa [KPart.cells, kUp, kDown, kCount] using HE.out.1, rbelow_grown (B1.out.below.alloc B1.out.below.size _) (B1.out.own.alloc _) HE.out.2⟩
              case measure => first | (simp [strLen, HZ.out]; done) | (simp [strLen, HZ.out]; omega) | (simp [strLen, HZ.out]; rw [z8.out, bs_size]; simp; omega)
            · by_cases c7 : c = 117
              · subst c7
                replace z2 : ∀ h0 : 0 < S.size, (S[0]'h0).toNat = 117 := fun h0 => by rw [z2 h0]; rfl
                have HS := Lib.hid (HSome.out (kCount (be8 l0)) (l0.drop 8) (by rw [pfirst_u (by omega)]))
                clear HNone HSome k4 hcn c1
                generalize be8 l0 = N at HS NM hlt
                have B1 := Lib.hid (pw_start HO.out HB.out #[.int .u8 117, .int .i64 0, .int .u64 (N : Int), .string ⟨#[]⟩] 46)
                replace hlt := Lib.hid hlt
                replace NM := Lib.hid NM
                go_wp2_with (first
                  | (go_at_call 41; (with_reducible refine (NM.out _).mono ?_); rintro e w1 ⟨rfl, rfl⟩)
                  | (at_builtin
                     refine wpList_append_lies _ rfl _ _ 48 rfl w.heap.size 46 i0 _ 4 40 Tryd.underlying48 HI.out.1 HI.out.2.1 HI.out.2.2.1 HI.out.2.2.2 rfl (by decide) u4 a.length (a.flatMap KPart.cells) rfl (B1.out.own.alloc _) ⟨wr.heap.size + 1, 0, none⟩ 1 1 [.int .u8 117, .int .i64 0, .int .u64 (N : Int), .string ⟨#[]⟩] rfl rfl (rnews _ _ (by simp) _ _ _ _ _) (by simp [Value.oneCell']) (by omega) (by unfold maxLen; omega) (by omega) (by simp; omega) (wr.heap.size + 2) (by simp) ?_
                     intro g cap w4 hown4 hgrow4 hwhere hlt4
                     have HE := Lib.hid (And.intro hown4 hgrow4)
                     clear hown4 hgrow4 hwhere hlt4))
                go_roundw
                case rel => exact ⟨a ++ [kCount N], l0.drop 8, _, HS.out, by simp; omega, z8.out, rfl, by rw [List.flatMap_append, List.length_append]; simpa [KPart.cells, kUp, kDown, kCount] using HE.out.1, rbelow_grown (B1.out.below.alloc B1.out.below.size _) (B1.out.own.alloc _) HE.out.2⟩
                case measure => first | (simp [strLen, HZ.out]; done) | (simp [strLen, HZ.out]; omega) | (simp [strLen, HZ.out]; rw [z8.out, bs_size]; simp; omega)
              · have HN := Lib.hid (HNone.out (pfirst_n c1 c5 c6 c7))
                have n5 : ¬ c.toNat = 105 := fun h => c5 (toNat_eq (by rw [h]; rfl))
                have n6 : ¬ c.toNat = 100 := fun h => c6 (toNat_eq (by rw [h]; rfl))
                have n7 : ¬ c.toNat = 117 := fun h => c7 (toNat_eq (by rw [h]; rfl))
                have k5 : ((c.toNat : Int) == 105) = false := by simp; omega
                have k6 : ((c.toNat : Int) == 100) = false := by simp; omega
                have k7 : ((c.toNat : Int) == 117) = false := by simp; omega
                have m5 : ((c.toNat : Int) != 105) = true := by simp [bne, k5]
                have m6 : ((c.toNat : Int) != 100) = true := by simp [bne, k6]
                have m7 : ((c.toNat : Int) != 117) = true := by simp [bne, k7]
                replace NM := Lib.hid NM
                replace hlt := Lib.hid hlt
                go_wp2
                go_ret2
                exact ⟨.inr ⟨rfl, .inr HN.out⟩, HB.out.alloc HB.out.size _⟩
end Go.Proofs.YtelbhegkaihjhaaDoor
