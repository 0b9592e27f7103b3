/-
  Two entries compared, by the memo's own text and by the document's: both walked. Conditions: as each theorem states.
-/
import Derived.Test.YtadejeoiffaimaaDoorMeB
import Derived.Test.YtadejeoiffaimaaDoorSkA
namespace Go.Proofs.YtadejeoiffaimaaDoor.Me
open Go.RowKit
open Vi

/-- a number by which of two entries stands ahead -/
def ordE (a b : En) : Int := if ahead a b then -1 else if ahead b a then 1 else 0
theorem toL (k : ByteArray) : k.toList = k.data.toList := ByteArray.toList_mk k.data.toList
theorem lt_def (a b : ByteArray) : Sk.lt a b = Op.bytesLess a.toList b.toList := rfl
theorem two_below {w : World} (o1 o2 : Obj) : Below w.heap.size w ((w.alloc o1).alloc o2) := ((Below.refl _ w).alloc (Nat.le_refl _) _).alloc (by simp) _
theorem nan_int (x : Int) (w : World) : Calls Tryd.prog 45 #[.int .i64 x] w fun e w' => e = .returned (.bool false) ∧ w = w' := by
  go_enter Tryd.func45, Tryd.ntmps45
  go_wp2
  go_ret
  exact ⟨by simp, rfl⟩
theorem cmp_int (x y : Int) (w : World) : Calls Tryd.prog 28 #[.int .i64 x, .int .i64 y] w fun e w' => e = .returned (.int .i64 (cmpI x y)) ∧ w = w' := by
  rcases Int.lt_trichotomy x y with h | h | h
  · rw [cmpI_lt h]
    go_enter Tryd.func28, Tryd.ntmps28
    go_wp2_with (go_at_call 45; refine (nan_int _ _).mono ?_; rintro e w' ⟨rfl, rfl⟩)
    go_ret
    exact ⟨rfl, rfl⟩
  · subst h
    rw [cmpI_eq (by omega) (by omega)]
    go_enter Tryd.func28, Tryd.ntmps28
    go_wp2_with (go_at_call 45; refine (nan_int _ _).mono ?_; rintro e w' ⟨rfl, rfl⟩)
    go_ret
    exact ⟨rfl, rfl⟩
  · rw [cmpI_gt h]
    go_enter Tryd.func28, Tryd.ntmps28
    go_wp2_with (go_at_call 45; refine (nan_int _ _).mono ?_; rintro e w' ⟨rfl, rfl⟩)
    go_ret
    exact ⟨rfl, rfl⟩
theorem third_new {w : World} (o1 o2 o3 : Obj) : ((((w.alloc o1).alloc o2).alloc o3).drew).heap[w.heap.size + 1 + 1]? = some o3 := by
  have h := heap_alloc_new ((w.alloc o1).alloc o2) o3
  have e : ((w.alloc o1).alloc o2).heap.size = w.heap.size + 1 + 1 := by simp
  rw [e] at h; exact h
theorem thrice_below {w : World} (o1 o2 o3 : Obj) : Below w.heap.size w (((w.alloc o1).alloc o2).alloc o3).drew := ((((Below.refl _ w).alloc (Nat.le_refl _) _).alloc (by simp) _).alloc (by simp; omega) _).drew
def or3 (a b c : Int) : Int := if a = 0 then (if b = 0 then c else b) else a
theorem or_any {W : World} {g k : Nat} {a b c : Int} {t : TypeId} (h : W.heap[g]? = some (.cells #[.int .i64 a, .int .i64 b, .int .i64 c] t (0, 0))) :
    Calls Tryd.prog 25 #[.slice (some ⟨g, 0, none⟩) 3 k] W fun e w' => e = .returned (.int .i64 (or3 a b c)) ∧ W = w' := by
  have c0 := cell_in h 0 (.int .i64 a) rfl
  have c1 := cell_in h 1 (.int .i64 b) rfl
  have c2 := cell_in h 2 (.int .i64 c) rfl
  clear h
  go_enter Tryd.func25, Tryd.ntmps25
  go_wp2
  go_loop [8] (fun i => i = .int .i64 0 ∨ (i = .int .i64 1 ∧ a = 0) ∨ (i = .int .i64 2 ∧ a = 0 ∧ b = 0) ∨ (i = .int .i64 3 ∧ a = 0 ∧ b = 0 ∧ c = 0)) (fun i => 3 - (intOf i).toNat)
  case atStart => exact .inl rfl
  case round =>
    rcases hrel with rfl | ⟨rfl, ha⟩ | ⟨rfl, ha, hb⟩ | ⟨rfl, ha, hb, hc⟩
    · by_cases h : a = 0
      · go_wp2
        go_round
        case rel => exact .inr (.inl ⟨rfl, h⟩)
        case measure => simp [intOf]
      · go_wp2
        go_ret
        exact ⟨by rw [show or3 a b c = a from if_neg h]; rfl, rfl⟩
    · by_cases h : b = 0
      · go_wp2
        go_round
        case rel => exact .inr (.inr (.inl ⟨rfl, ha, h⟩))
        case measure => simp [intOf]
      · go_wp2
        go_ret
        exact ⟨by rw [show or3 0 b c = b by unfold or3; rw [if_pos rfl, if_neg h]]; rfl, rfl⟩
    · by_cases h : c = 0
      · go_wp2
        go_round
        case rel => exact .inr (.inr (.inr ⟨rfl, ha, hb, h⟩))
        case measure => simp [intOf]
      · go_wp2
        go_ret
        exact ⟨by rw [show or3 0 0 c = c by unfold or3; rw [if_pos rfl, if_pos rfl]]; rfl, rfl⟩
    · go_wp2
      go_ret
      exact ⟨by rw [show or3 0 0 0 = 0 from rfl]; rfl, rfl⟩
theorem ord_cmp (a b : En) : or3 (cmpS a.key.data.toList b.key.data.toList) (cmpI b.seq a.seq) (cmpI b.kind a.kind) = ordE a b := by
  unfold ordE
  by_cases hk : a.key = b.key
  · have h1 : cmpS a.key.data.toList b.key.data.toList = 0 := by rw [hk]; exact cmpS_self _
    unfold or3; rw [if_pos h1]
    unfold ahead
    rw [if_pos hk, if_pos hk.symm]
    by_cases hs : a.seq = b.seq
    · rw [if_pos hs, if_pos hs.symm, if_pos (show cmpI (b.seq : Int) a.seq = 0 by rw [hs]; exact cmpI_eq (by omega) (by omega))]
      unfold cmpI
      by_cases h2 : b.kind < a.kind
      · rw [if_pos h2, decide_eq_true h2]; rfl
      · rw [if_neg h2, decide_eq_false h2]
        by_cases h3 : a.kind < b.kind
        · rw [if_pos h3, decide_eq_true h3]; rfl
        · rw [if_neg h3, decide_eq_false h3]; rfl
    · have hs2 : ¬ b.seq = a.seq := fun e => hs e.symm
      rw [if_neg hs, if_neg hs2]
      by_cases h2 : b.seq < a.seq
      · have h3 : cmpI (b.seq : Int) a.seq = -1 := cmpI_lt (by omega)
        rw [h3, decide_eq_true h2]; rfl
      · have h3 : cmpI (b.seq : Int) a.seq = 1 := cmpI_gt (by omega)
        rw [h3, decide_eq_false h2, decide_eq_true (show a.seq < b.seq by omega)]; rfl
  · have hne : ¬ a.key.data.toList = b.key.data.toList := fun e => hk (data_inj e)
    unfold ahead
    rw [if_neg hk, if_neg (show ¬ b.key = a.key from fun e => hk e.symm)]
    unfold or3
    rw [lt_data, lt_data]
    unfold cmpS
    cases h1 : Op.bytesLess a.key.data.toList b.key.data.toList with
    | true => rfl
    | false =>
      have h2 : Op.bytesLess b.key.data.toList a.key.data.toList = true := by
        cases h3 : Op.bytesLess b.key.data.toList a.key.data.toList with
        | true => rfl
        | false =>
          have e1 := Sk.lt_tri (a := a.key) (b := b.key) (by rw [lt_data]; exact h1) (by rw [lt_data]; exact h3)
          exact absurd e1 hk
      simp [h2, hne]
set_option maxRecDepth 100000 in
set_option maxHeartbeats 1000000 in
theorem compare_any (a b : En) (w : World) :
    Calls Tryd.prog 11 #[.agg #[.string a.key, .int .u64 a.seq, .int .i64 a.kind, .string a.val], .agg #[.string b.key, .int .u64 b.seq, .int .i64 b.kind, .string b.val]] w
      fun e w' => e = .returned (.int .i64 (ordE a b)) ∧ Below w.heap.size w w' := by
  have X0 := heap_alloc_new w (.cells #[.string a.key, .int .u64 a.seq, .int .i64 a.kind, .string a.val] 30)
  have Y0 := heap_alloc_new (w.alloc (.cells #[.string a.key, .int .u64 a.seq, .int .i64 a.kind, .string a.val] 30)) (.cells #[.string b.key, .int .u64 b.seq, .int .i64 b.kind, .string b.val] 30)
  rw [World.size_alloc] at Y0
  have hb : Below w.heap.size w ((w.alloc (.cells #[.string a.key, .int .u64 a.seq, .int .i64 a.kind, .string a.val] 30)).alloc (.cells #[.string b.key, .int .u64 b.seq, .int .i64 b.kind, .string b.val] 30)) := ((Below.refl _ w).alloc (Nat.le_refl _) _).alloc (by simp) _
  have X1 := Lib.hid (old_alloc X0 (.cells #[.string b.key, .int .u64 b.seq, .int .i64 b.kind, .string b.val] 30))
  have Y1 := Lib.hid Y0
  obtain ⟨k0, k1, k2, k3⟩ := box4 X1.out
  obtain ⟨z0, z1, z2, z3⟩ := box4 Y1.out
  have HB := Lib.hid hb
  have HO := Lib.hid (ord_cmp a b)
  clear X0 Y0 hb
  go_enter Tryd.func11, Tryd.ntmps11
  go_wp2
  go_region_held3 (fun wx => wx.cell? ⟨w.heap.size, 0, none⟩ = some (.string a.key) ∧ wx.cell? ⟨w.heap.size, 1, none⟩ = some (.int .u64 a.seq) ∧ wx.cell? ⟨w.heap.size, 2, none⟩ = some (.int .i64 a.kind) ∧ wx.cell? ⟨w.heap.size + 1, 0, none⟩ = some (.string b.key) ∧ wx.cell? ⟨w.heap.size + 1, 1, none⟩ = some (.int .u64 b.seq) ∧ wx.cell? ⟨w.heap.size + 1, 2, none⟩ = some (.int .i64 b.kind))
    (first | exact ⟨k0, k1, k2, z0, z1, z2⟩ | exact ⟨(box4 (old_alloc X1.out _)).1, (box4 (old_alloc X1.out _)).2.1, (box4 (old_alloc X1.out _)).2.2.1, (box4 (old_alloc Y1.out _)).1, (box4 (old_alloc Y1.out _)).2.1, (box4 (old_alloc Y1.out _)).2.2.1⟩)
    (first
      | (go_at_call 26; refine (cmp_str_at a.key b.key _).mono ?_; rintro e w1 ⟨rfl, rfl⟩)
      | (go_at_call 27; refine (cmp_u64 _ _ _).mono ?_; rintro e w1 ⟨rfl, rfl⟩)
      | (go_at_call 28; refine (cmp_int _ _ _).mono ?_; rintro e w1 ⟨rfl, rfl⟩)
      | (go_at_call 25; (with_reducible refine (or_any (third_new _ _ _)).mono ?_); rintro e w1 ⟨rfl, rfl⟩; rw [HO.out]))
  all_goals
    go_wp2
    go_ret
    exact ⟨rfl, thrice_below _ _ _⟩
end Go.Proofs.YtadejeoiffaimaaDoor.Me
