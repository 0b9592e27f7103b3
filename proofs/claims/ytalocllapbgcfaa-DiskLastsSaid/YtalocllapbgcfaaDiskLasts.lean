/-
  The law DiskLasts returns true at every input. No condition.
-/
import Derived.Test.YtalocllapbgcfaaLaw
import Derived.Test.YtalocllapbgcfaaDiskK
import Derived.Lib.SmallJoins
namespace Go.Proofs.Ytalocllapbgcfaa.diskLasts
open Go.ChangeShapes Go.WideShapes Go.ChangeAt Go.RowKit Go.Joins
open Go.ChangeMaps (open_string)
open Go.Proofs.Ytalocllapbgcfaa

theorem set_far (T : List UInt8) (n : Nat) (u : UInt8) (j : Nat) (h : j ≠ n) : (T.set n u)[j]? = T[j]? := by
  rw [List.getElem?_set_ne (Ne.symm h)]
/-- of a crash of one file there stays what lasted, and of what was loose a beginning, of which one byte may be turned -/
theorem crash_single (f : FateS) (S T : List UInt8) (F : Nat) (v : Value) :
    ∃ T' v', crashGo [f] [[97]] 0 ([] ++ ⟨[97], S ++ T, S.length, F, v⟩ :: []) = [⟨[97], S ++ T', (S ++ T').length, F, v'⟩] ∧ T'.length ≤ T.length ∧ ∃ p : Nat, ∀ j : Nat, j < T'.length → j ≠ p → T'[j]? = T[j]? := by
  have h0 : crashGo [f] [[97]] 0 ([] ++ ⟨[97], S ++ T, S.length, F, v⟩ :: []) = if (S ++ T).length - S.length = 0 then [⟨[97], S ++ T, S.length, F, v⟩] else [meetE f ⟨[97], S ++ T, S.length, F, v⟩] := rfl
  rw [h0]
  by_cases hz : (S ++ T).length - S.length = 0
  · rw [if_pos hz]
    have ht : T = [] := by
      rw [List.length_append] at hz
      exact List.eq_nil_of_length_eq_zero (by omega)
    subst ht
    exact ⟨[], v, by simp, by simp, 0, fun j hj => by cases hj⟩
  · rw [if_neg hz]
    have hk := keepOf_le f.keep ⟨[97], S ++ T, S.length, F, v⟩
    generalize hK : keepOf f.keep ⟨[97], S ++ T, S.length, F, v⟩ = K at hk
    simp only [List.length_append] at hk
    have key : ∃ T1, turnBytes f ⟨[97], S ++ T, S.length, F, v⟩ = S ++ T1 ∧ T1.length = T.length ∧ ∃ p : Nat, ∀ j : Nat, j ≠ p → T1[j]? = T[j]? := by
      unfold turnBytes
      rw [hK]
      split
      · rename_i hc
        split
        · rename_i b _
          refine ⟨T.set f.plc.toNat (b ^^^ f.turn), ?_, by simp, f.plc.toNat, fun j hj => set_far T _ _ j hj⟩
          simp only
          rw [List.set_append_right _ _ (by omega)]
          simp
        · exact ⟨T, rfl, rfl, 0, fun _ _ => rfl⟩
      · exact ⟨T, rfl, rfl, 0, fun _ _ => rfl⟩
    obtain ⟨T1, e1, e2, p, hp⟩ := key
    refine ⟨T1.take K, cutV v (S.length + K), ?_, by rw [List.length_take]; omega, p, fun j hj hne => ?_⟩
    · have e3 : (S ++ T1).take (S.length + K) = S ++ T1.take K := by rw [List.take_append, List.take_of_length_le (by omega)]; simp
      unfold meetE Ent.kept
      simp only [hK, e1, e3]
      congr 2
      rw [List.length_append, List.length_take]; omega
    · rw [List.length_take] at hj
      rw [List.getElem?_take_of_lt (by omega)]
      exact hp j hne

theorem sz (s : ByteArray) : s.data.toList.length = s.size := by rw [Array.length_toList]; rfl
theorem walk_long (s t : ByteArray) (hs : s.size ≤ 9223372036854775807) (ht : t.size ≤ 9223372036854775807) (k p u : Int) (h : 3000 < s.size ∨ 3000 < t.size) (w : World) :
    Calls Try.prog 8 #[.string s, .string t, .agg #[.int .i64 k, .int .i64 p, .int .u8 u]] w fun e w' => e = .returned (.bool true) ∧ Below w.heap.size w w' := by
  by_cases h1 : 3000 < s.size
  · clear h
    go_enter Try.func8, Try.ntmps8
    go_wp2_with (go_at_call 22; with_reducible refine (awake_disk _).mono ?_; rintro e w1 ⟨rfl, hb⟩)
    go_ret
    exact ⟨rfl, ((Below.refl _ w).alloc (Nat.le_refl _) _).trans (hb.mono (by simp))⟩
  · have h2 : 3000 < t.size := by omega
    have h3 : s.size ≤ 3000 := by omega
    clear h h1
    go_enter Try.func8, Try.ntmps8
    go_wp2_with (go_at_call 22; with_reducible refine (awake_disk _).mono ?_; rintro e w1 ⟨rfl, hb⟩)
    go_ret
    exact ⟨rfl, ((Below.refl _ w).alloc (Nat.le_refl _) _).trans (hb.mono (by simp))⟩
theorem loose_at {w : World} {d m : Nat} {L : List Ent} {room steps fuse fault : Int} {down : Bool} (h : DiskAt w d m L room steps fuse fault down) (s : ByteArray) (hs : Hid (s.size ≤ maxLen)) {e : Ent} (he : e ∈ L) (hne : e.name = s.data.toList) {q : Nat} (hq : e.bytes.length - e.sure = q) :
    Calls Try.prog 31 #[.pointer (some ⟨d, 0, none⟩), .string s] w fun r w' => r = .returned (.int .i64 (q : Int)) ∧ DiskAt w' d m L room steps fuse fault down ∧ Moves w (feet d m L) w' (feet d m L) := by
  subst hq
  refine (loose_ok h s hs he hne).mono ?_
  rintro r w' ⟨rfl, n, rfl⟩
  have hb := below_drewN (Below.refl w.heap.size w) n
  exact ⟨rfl, h.below hb, ⟨Only.of_below hb, fun _ hk => Or.inl hk⟩⟩
theorem fates_one {w : World} {b : Nat} (f : FateS) (h1 : w.cell? ⟨b, 0, none⟩ = some (.int .i64 f.keep)) (h2 : w.cell? ⟨b, 1, none⟩ = some (.int .i64 f.plc)) (h3 : w.cell? ⟨b, 2, none⟩ = some (.int .u8 (f.turn.toNat : Int))) :
    FatesAt w (.slice (some ⟨b, 0, none⟩) 1 1) [f] := by
  refine ⟨⟨_, _, rfl⟩, fun _ => ⟨b, 0, 1, rfl, fun i g hg => ?_⟩⟩
  cases i with
  | zero =>
    have : f = g := by simpa using hg
    subst this
    exact ⟨h1, h2, h3⟩
  | succ i => simp at hg
theorem after_crash {w7 w8 : World} {d m F : Nat} {v6 : Value} {room steps : Int} {f : FateS} {s t : ByteArray} {fp : List Nat}
    (hD : DiskAt w8 d m (crashGo [f] [[97]] 0 ([] ++ ⟨[97], [] ++ s.data.toList ++ t.data.toList, ([] ++ s.data.toList).length, F, v6⟩ :: [])) room steps (-1) (-1) false)
    (hM : Moves w7 fp w8 (feet d m (crashGo [f] [[97]] 0 ([] ++ ⟨[97], [] ++ s.data.toList ++ t.data.toList, ([] ++ s.data.toList).length, F, v6⟩ :: [])))) :
    ∃ (R : ByteArray) (T' : List UInt8) (v8 : Value) (p0 : Nat), DiskAt w8 d m [⟨[97], s.data.toList ++ T', (s.data.toList ++ T').length, F, v8⟩] room steps (-1) (-1) false ∧
      Moves w7 fp w8 (feet d m [⟨[97], s.data.toList ++ T', (s.data.toList ++ T').length, F, v8⟩]) ∧ R.data.toList = s.data.toList ++ T' ∧ s.size ≤ R.size ∧ R.extract 0 s.size = s ∧ R.size ≤ s.size + t.size ∧
      ∀ j : Nat, j < T'.length → j ≠ p0 → T'[j]? = t.data.toList[j]? := by
  obtain ⟨T', v8, hcr, hle, p0, hp0⟩ := crash_single f s.data.toList t.data.toList F v6
  refine ⟨⟨(s.data.toList ++ T').toArray⟩, T', v8, p0, Eq.mp (congrArg (fun L => DiskAt w8 d m L room steps (-1) (-1) false) hcr) hD, Eq.mp (congrArg (fun L => Moves w7 fp w8 (feet d m L)) hcr) hM, rfl, ?_, ?_, ?_, hp0⟩
  · show s.size ≤ (s.data.toList ++ T').toArray.size
    rw [List.size_toArray, List.length_append, sz]; omega
  · apply ByteArray.ext
    rw [ByteArray.data_extract]
    apply Array.ext'
    rw [Array.toList_extract, List.extract_eq_take_drop]
    simp
  · show (s.data.toList ++ T').toArray.size ≤ _
    rw [List.size_toArray, List.length_append, sz]
    rw [sz] at hle
    omega
theorem read_R {w : World} {d m F : Nat} {b : List UInt8} {n : Nat} {v : Value} {room steps fuse fault : Int} {R : ByteArray} (h : DiskAt w d m [⟨[97], b, n, F, v⟩] room steps fuse fault false) (hR : R.data.toList = b) :
    Calls Try.prog 33 #[.pointer (some ⟨d, 0, none⟩), .string ⟨#[97]⟩] w fun r w' => r = .returned (.tuple #[.string R, .int .i64 0]) ∧ w = w' := by
  have e : R = ⟨b.toArray⟩ := by
    apply ByteArray.ext
    apply Array.ext'
    rw [hR]
  rw [e]
  exact read_ok h ⟨#[97]⟩ (by show (1 : Nat) ≤ _; decide) List.mem_cons_self rfl
def LastRel (s R : ByteArray) (p0 : Nat) (w10 : World) (s11 s12 : Value) (wr : World) : Prop :=
  ∃ c i : Nat, s.size ≤ i ∧ i ≤ R.size ∧ s12 = .int .i64 ((i : Nat) : Int) ∧ s11 = .int .i64 ((c : Nat) : Int) ∧ c ≤ 1 ∧ (c = 1 → p0 < i - s.size) ∧ Below w10.heap.size w10 wr
theorem last_byte {s t R : ByteArray} {T' : List UInt8} {p0 i : Nat} (hR : R.data.toList = s.data.toList ++ T') (hp : ∀ j : Nat, j < T'.length → j ≠ p0 → T'[j]? = t.data.toList[j]?) (h1 : s.size ≤ i) (h2 : i < R.size) (h3 : i - s.size < t.size) :
    R[i] ≠ t[i - s.size] → i - s.size = p0 := by
  intro hne
  apply Classical.byContradiction
  intro hj
  have hl : R.data.toList.length = R.size := sz R
  have hT : i - s.size < T'.length := by
    have := congrArg List.length hR
    rw [List.length_append, sz, sz] at this
    omega
  have e1 := hp _ hT hj
  have e2 : R.data.toList[i]? = T'[i - s.size]? := by
    rw [hR, List.getElem?_append_right (by rw [sz]; exact h1), sz]
  have e3 : R.data.toList[i]? = some R[i] := by rw [List.getElem?_eq_getElem (by rw [sz]; exact h2)]; rfl
  have e4 : t.data.toList[i - s.size]? = some t[i - s.size] := by rw [List.getElem?_eq_getElem (by rw [sz]; exact h3)]; rfl
  rw [e3, e1, e4] at e2
  injection e2 with e2
  exact hne e2
set_option maxRecDepth 100000 in
set_option maxHeartbeats 2000000 in
theorem walk_short (s t : ByteArray) (hs : s.size ≤ 3000) (ht : t.size ≤ 3000) (k p : Int) (u : UInt8) (w : World) :
    Calls Try.prog 8 #[.string s, .string t, .agg #[.int .i64 k, .int .i64 p, .int .u8 (u.toNat : Int)]] w fun e w' => e = .returned (.bool true) ∧ Below w.heap.size w w' := by
  go_enter Try.func8, Try.ntmps8
  go_wp2_with (first
    | (go_at_call 22; with_reducible refine (awake_disk _).mono ?_; rintro e w1 ⟨rfl, hb⟩)
    | (go_at_call 23; with_reducible refine (new_any 16777216 (by omega) (by omega) _).mono ?_; rintro r w2 ⟨rfl, hD2, hb2⟩; have HD2 := Lib.hid (And.intro hD2 hb2); clear hD2 hb2)
    | (go_at_call 28
       refine (create_ok HD2.out.1 ⟨#[97]⟩ (by show (1 : Nat) ≤ _; decide) (by show (1 : Nat) ≤ _; decide) (by decide) (fun e he => by cases he) (by decide) rfl rfl (by omega) (by omega) (by omega) (by omega) (by omega) (by omega)).mono ?_
       rintro r w3 ⟨rfl, F, hD3, hM3⟩
       have HD3 := Lib.hid (And.intro hD3 hM3)
       clear hD3 hM3)
    | (go_at_call 29
       refine (append_ok (A := []) (B := []) HD3.out.1 ⟨#[97]⟩ s (by show (1 : Nat) ≤ _; decide) (by omega) rfl (by omega) (by show ((0 : Nat) : Int) + (s.size : Int) ≤ 16777216; omega) (can_new _ (by omega) (by omega))).mono ?_
       rintro r w4 ⟨rfl, v4, hD4, hM4⟩
       have HD4 := Lib.hid (And.intro hD4 (HD3.out.2.trans hM4))
       clear hD4 hM4 HD3)
    | (go_at_call 30
       refine (sync_ok (A := []) (B := []) HD4.out.1 ⟨#[97]⟩ (by show (1 : Nat) ≤ _; decide) rfl (can_new _ (by omega) (by omega))).mono ?_
       rintro r w5 ⟨rfl, hD5, hM5⟩
       have HD5 := Lib.hid (And.intro hD5 (HD4.out.2.trans hM5))
       clear hD5 hM5 HD4)
    | (go_at_call 29
       (refine (append_ok (A := []) (B := []) HD5.out.1 ⟨#[97]⟩ t (by show (1 : Nat) ≤ _; decide) (by omega) rfl (by omega) (by rw [usedL_mid]; simp [usedL]; omega) (can_new _ (by omega) (by omega))).mono ?_)
       rintro r w6 ⟨rfl, v6, hD6, hM6⟩
       have HD6 := Lib.hid (And.intro hD6 (HD5.out.2.trans hM6))
       clear hD6 hM6 HD5)
    | (go_at_call 31
       refine (loose_at (q := t.size) HD6.out.1 ⟨#[97]⟩ (by show (1 : Nat) ≤ _; decide) (List.mem_append_right _ List.mem_cons_self) rfl (by simp)).mono ?_
       rintro r w7 ⟨rfl, hD7, hM7⟩
       have HD7 := Lib.hid (And.intro hD7 (HD6.out.2.trans hM7))
       have hall : Below (w.heap.size + 1) (w.alloc (.cells #[.int .i64 k, .int .i64 p, .int .u8 (u.toNat : Int)] 51)) w7 := (hb.mono (by simp)).trans ((HD2.out.2.mono (by have := hb.size; simp at this; omega)).trans ((HD7.out.2.below (new_low rfl rfl rfl HD2.out.2) HD2.out.2.size).mono (by have := hb.size; simp at this; omega)))
       have y1 := (hall.cell (p := ⟨w.heap.size, 0, none⟩) (by simp)).trans (World.cell?_alloc_new w _ _ 0)
       have y2 := (hall.cell (p := ⟨w.heap.size, 1, none⟩) (by simp)).trans (World.cell?_alloc_new w _ _ 1)
       have y3 := (hall.cell (p := ⟨w.heap.size, 2, none⟩) (by simp)).trans (World.cell?_alloc_new w _ _ 2)
       simp only [List.getElem?_toArray, List.getElem?_cons_zero, List.getElem?_cons_succ] at y1 y2 y3
       have HAL := Lib.hid hall
       clear hD7 hM7 HD6 hall)
    | (go_at_call 32
       (refine (crash_any (HD7.out.1.below ((Below.refl _ w7).alloc (Nat.le_refl _) _)) _ [⟨k, p, u⟩] (fates_one ⟨k, p, u⟩ (World.cell?_alloc_new w7 _ _ 0) (World.cell?_alloc_new w7 _ _ 1) (World.cell?_alloc_new w7 _ _ 2)) (fun b o n c h => by injection h with h1; injection h1 with h1; injection h1 with h1; subst h1; exact ⟨fun hm => by have := HD7.out.1.lt _ hm; omega, by simp⟩) (by show (1 : Nat) ≤ _; omega)).mono ?_)
       rintro r w8 ⟨rfl, ss, L8, hso, hsp, hL8, hD8, hM8⟩
       have hss := perm_one hsp
       subst hss
       subst hL8
       obtain ⟨R, T', v8, p0, hD8', hM8', hR, hR1, hR2, hR3, hp0⟩ := after_crash hD8 hM8
       have HD8 := Lib.hid (And.intro hD8' (And.intro (HD7.out.2.trans (Moves.trans ⟨Only.of_below ((Below.refl _ w7).alloc (Nat.le_refl _) _), fun _ hk => Or.inl hk⟩ hM8')) (And.intro hR hp0)))
       clear hD8' hM8' hR hp0 hD8 hM8 hso hsp)
    | (go_at_call 33
       refine (read_R HD8.out.1 HD8.out.2.2.1).mono ?_
       rintro r w9 ⟨rfl, rfl⟩)
    | (go_at_call 31
       refine (loose_at (q := 0) HD8.out.1 ⟨#[97]⟩ (by show (1 : Nat) ≤ _; decide) List.mem_cons_self rfl (by simp)).mono ?_
       rintro r w10 ⟨rfl, hD10, hM10⟩
       have HD10 := Lib.hid (And.intro hD10 (HD8.out.2.1.trans hM10))
       clear hD10 hM10))
  go_loopw [11, 12] (LastRel s R p0 w10) (fun _ i _ => R.size - (intOf i).toNat)
  case atStart => exact ⟨0, s.size, Nat.le_refl _, hR1, rfl, rfl, by omega, by omega, Below.refl _ _⟩
  case round =>
    obtain ⟨c, i, hi1, hi2, rfl, rfl, hc1, hc2, hbr⟩ := hrel
    by_cases hlt : i < R.size
    · have hjt : i - s.size < t.size := by omega
      have hx := last_byte HD8.out.2.2.1 HD8.out.2.2.2 hi1 hlt hjt
      have HX := Lib.hid hx
      clear hx
      have w1' : IntKind.i64.wrap ((i : Int) - (s.size : Int)) = (i : Int) - (s.size : Int) := IntWalk.i64_in _ (by omega)
      have w2' : (0 : Int) ≤ (i : Int) - (s.size : Int) := by omega
      have w3' : ((i : Int) - (s.size : Int)).toNat = i - s.size := by omega
      have w4' : (i : Int) - (s.size : Int) < (t.size : Int) := by omega
      by_cases hne : R[i] = t[i - s.size]
      · have hb1 : (((R[i]).toNat : Int) != ((t[i - s.size]).toNat : Int)) = false := by rw [hne]; simp
        go_wp2
        go_quiet (fail)
        clear w1'
        go_wp2
        go_roundw
        case rel => exact ⟨c, i + 1, by omega, by omega, by go_num, rfl, hc1, by omega, below_drewN hbr _⟩
        case measure => simp [intOf]; omega
      · have hb1 : (((R[i]).toNat : Int) != ((t[i - s.size]).toNat : Int)) = true := by
          simp
          intro e0
          exact hne (UInt8.toNat_inj.1 (by omega))
        have hp := HX.out hne
        have hc0 : c ≤ 0 := by omega
        clear hne
        have HP := Lib.hid hp
        clear hp
        go_wp2
        go_quiet (fail)
        clear w1'
        go_wp2
        go_roundw
        case rel => exact ⟨c + 1, i + 1, by omega, by omega, by go_num, by go_num, by omega, by have := HP.out; omega, below_drewN hbr _⟩
        case measure => simp [intOf]; omega
    · have hcz : (c : Int) ≤ 1 := by omega
      go_wp2
      go_ret
      refine ⟨rfl, ?_⟩
      have e1 : Below w.heap.size w w1 := ((Below.refl _ w).alloc (Nat.le_refl _) _).trans (hb.mono (by simp))
      have e2 := (HD10.out.2.below (new_low rfl rfl rfl HD2.out.2) HD2.out.2.size)
      have z1 := e1.size
      have z2 := HD2.out.2.size
      have z3 := e2.size
      exact ((e1.trans (HD2.out.2.mono z1)).trans (e2.mono z1)).trans (hbr.mono (by omega))
theorem walk (s t : ByteArray) (hs : s.size ≤ maxLen) (ht : t.size ≤ maxLen) (k p : Int) (u : UInt8) (w : World) :
    Calls Try.prog 8 #[.string s, .string t, .agg #[.int .i64 k, .int .i64 p, .int .u8 (u.toNat : Int)]] w fun e w' => e = .returned (.bool true) ∧ Below w.heap.size w w' := by
  by_cases h : 3000 < s.size ∨ 3000 < t.size
  · exact walk_long s t hs ht k p _ h w
  · exact walk_short s t (by omega) (by omega) k p u w

theorem cells51 : Try.prog.cellsOf 51 = 3 := by kernel_rfl
theorem u8_nat {a : Int} (w0 : (Lit.int .u8 a).wf = true) : ∃ n : UInt8, a = (n.toNat : Int) := by
  have hx : 0 ≤ a ∧ a ≤ 255 := by simpa [Lit.wf, IntKind.min, IntKind.max, IntKind.signed, IntKind.bits] using w0
  refine ⟨UInt8.ofNat a.toNat, ?_⟩
  rw [UInt8.toNat_ofNat']
  omega
set_option maxRecDepth 100000 in
theorem lifted (os : Os) (started : os.Started) (H : Type) (enc : TypeId × Value → H) :
    ReturnsInHanded {} Try.checked os 8 .any (Rows.diskLastsSpec.pre6 enc Try.prog Try.f8 Rows.diskLastsRow.domain false) (Rows.diskLastsSpec.post enc Try.prog Try.f8 false true false false) := by
  refine returnsInHanded_of_change (C := Try.checked) own started (by kernel_rfl) Try.func8
    (ChangeSpec.witness6 (enc := enc) (C := Try.checked) false ⟨#[], #[.string .empty, .string .empty, .agg #[.int .i64 0, .int .i64 0, .int .u8 0]], []⟩ 8 (by kernel_rfl) (by kernel_rfl) (by kernel_rfl) (by kernel_rfl)) ?_
  intro W base args ds gs before hval0 hW hcnd _
  have hval : ∀ (j : Nat) t v, Try.f8.params[j]? = some t → args[j]? = some v → Value.okWide Try.prog W .any base t v := hval0
  have hW' := hW
  obtain ⟨p, q, hA0, hV, rfl, hfz, hnd⟩ := hW
  have hA : DataW.TrodAll enc Try.prog W 0 (fun _ => true) true Try.f8.params.toList args.toList ds p := hA0
  rw [Try.params8] at hA hval
  obtain ⟨v0, vs0, d0, ds0, p0, q0, hargs, rfl, rfl, h0, r0⟩ := trodAll_cons hA
  obtain ⟨v1, vs1, d1, ds1, p1, q1, rfl, rfl, rfl, h1, r1⟩ := trodAll_cons r0
  obtain ⟨v2, vs2, d2, ds2, p2, q2, rfl, rfl, rfl, h2, r2⟩ := trodAll_cons r1
  obtain ⟨rfl, rfl, rfl⟩ := trodAll_nil r2
  obtain rfl : args = #[v0, v1, v2] := by cases args; simp_all
  obtain ⟨s, rfl, rfl, rfl, hs⟩ := open_string Try.underlying9 (hval 0 9 v0 rfl rfl) h0
  obtain ⟨t, rfl, rfl, rfl, ht⟩ := open_string Try.underlying9 (hval 1 9 v1 rfl rfl) h1
  obtain ⟨c0, c1, c2, y0, y1, y2, mm, rfl, rfl, rfl, hy0, hy1, hy2⟩ := open_agg3 (show Try.prog.underlying 51 = _ from Try.underlying51) (by kernel_rfl) cells51 (hval 2 51 v2 rfl rfl) h2
  obtain ⟨x, e0, rfl, wx⟩ := DataW.trod_int Try.underlying3 hy0
  obtain ⟨y, e1, rfl, wy⟩ := DataW.trod_int Try.underlying3 hy1
  obtain ⟨z, e2, rfl, wz⟩ := DataW.trod_int Try.underlying5 hy2
  simp at e0 e1 e2
  subst e0 e1 e2
  obtain ⟨u, rfl⟩ := u8_nat wz
  refine (walk s t hs ht x y u W).mono fun e W' ⟨he, hb⟩ => ?_
  exact ⟨_, he, post_law hW' rfl rfl rfl (by rw [Try.params8]; decide +kernel) hb⟩

theorem proved : Rows.DiskLastsSaid :=
  OpenClaim.holds_of_wide 8 Try.f8 rfl rfl rfl rfl rfl rfl rfl ⟨rfl, rfl, rfl, rfl, rfl⟩ rfl rfl rfl rfl rfl (by kernel_rfl) Try.func8 (by kernel_rfl)
    (of_decide_eq_true (by kernel_rfl)) (by unfold Func.isWrapper; first | (rw [if_pos (by decide +kernel)]; kernel_rfl) | (rw [if_neg (by decide +kernel)]; exact ⟨rfl, rfl⟩))
    (fun os started H enc _ => lifted os started H enc)
#print axioms proved
end Go.Proofs.Ytalocllapbgcfaa.diskLasts
