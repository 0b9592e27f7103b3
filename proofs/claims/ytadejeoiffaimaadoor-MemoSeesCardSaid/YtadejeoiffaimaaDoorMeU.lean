/-
  What entries may be, by the memo's own text and by the document's; a memo's bytes; what Get and From come to. Conditions: as each theorem states.
-/
import Derived.Test.YtadejeoiffaimaaDoorMeT
import Derived.Test.YtadejeoiffaimaaDoorMeH
namespace Go.Proofs.YtadejeoiffaimaaDoor.Me
open Go.RowKit
open Vi
open Go.Proofs.YtadejeoiffaimaaDoor.Sk (feet Lst Moves Only)

def chkE (e : En) : Int := if e.key.size < 1 ∨ 85 < e.key.size then 19 else if ¬ (e.kind = 1 ∨ e.kind = 2) then 11 else if 72057594037927935 < e.seq then 8 else 0
theorem chk_good {e : En} (h : e.good) : chkE e = 0 := by
  unfold chkE
  rw [if_neg (by have := h.k1; have := h.k2; omega), if_neg (fun hn => hn h.kd), if_neg (by have := h.sq; omega)]
theorem good_chk {e : En} (h : chkE e = 0) : e.good := by
  unfold chkE at h
  split at h
  · cases h
  · split at h
    · cases h
    · split at h
      · cases h
      · rename_i h1 h2 h3
        exact ⟨by omega, by omega, Decidable.byContradiction h2, by omega⟩
theorem key_none {k : ByteArray} (h : ¬ 1 ≤ k.size) : k.toList = [] := by
  have hl : k.toList = k.data.toList := ByteArray.toList_mk k.data.toList
  rw [hl]
  exact List.eq_nil_of_length_eq_zero (by rw [size_len]; omega)
set_option maxRecDepth 100000 in
set_option maxHeartbeats 2000000 in
theorem check_any (e : En) (w : World) :
    Calls Tryd.prog 20 #[.agg #[.string e.key, .int .u64 e.seq, .int .i64 e.kind, .string e.val]] w fun r w' => r = .returned (.int .i64 (chkE e)) ∧ Below w.heap.size w w' := by
  obtain ⟨ek, es, ed, ev⟩ := e
  obtain ⟨k0, k1, k2, k3⟩ := box4 (e_box (W := w) ⟨ek, es, ed, ev⟩ 30)
  simp only at k0 k1 k2 k3
  unfold chkE
  by_cases h1 : 1 ≤ ek.size
  · obtain ⟨n1, n2⟩ := key_some h1
    by_cases h2 : 85 < ek.size
    · rw [if_pos (.inr h2)]
      have h5 : (85 < (ek.size : Int)) := by omega
      go_enter Tryd.func20, Tryd.ntmps20
      go_wp2
      go_ret
      exact ⟨rfl, (Below.refl _ w).alloc (Nat.le_refl _) _⟩
    · rw [if_neg (by show ¬ (ek.size < 1 ∨ 85 < ek.size); omega)]
      have h5 : ¬ (85 < (ek.size : Int)) := by omega
      by_cases h3 : ed = 1 ∨ ed = 2
      · rw [if_neg (fun hn => hn h3)]
        by_cases h4 : 72057594037927935 < es
        · rw [if_pos h4]
          have h6 : (72057594037927935 < (es : Int)) := by omega
          rcases h3 with rfl | rfl
          all_goals
            go_enter Tryd.func20, Tryd.ntmps20
            go_wp2
            go_ret
            exact ⟨rfl, (Below.refl _ w).alloc (Nat.le_refl _) _⟩
        · rw [if_neg h4]
          have h6 : ¬ (72057594037927935 < (es : Int)) := by omega
          rcases h3 with rfl | rfl
          all_goals
            go_enter Tryd.func20, Tryd.ntmps20
            go_wp2
            go_ret
            exact ⟨rfl, (Below.refl _ w).alloc (Nat.le_refl _) _⟩
      · rw [if_pos h3]
        have g1 : ¬ ed = 1 := fun h => h3 (.inl h)
        have g2 : ¬ ed = 2 := fun h => h3 (.inr h)
        have g3 : (ed != 1) = true := by simpa using g1
        have g4 : (ed != 2) = true := by simpa using g2
        clear h3
        go_enter Tryd.func20, Tryd.ntmps20
        go_wp2
        go_ret
        exact ⟨rfl, (Below.refl _ w).alloc (Nat.le_refl _) _⟩
  · rw [if_pos (.inl (show ek.size < 1 by omega))]
    have hn := key_none h1
    have hn2 : ek.toList.isEmpty = true := by rw [hn]; rfl
    go_enter Tryd.func20, Tryd.ntmps20
    go_wp2
    go_ret
    exact ⟨rfl, (Below.refl _ w).alloc (Nat.le_refl _) _⟩
set_option maxRecDepth 100000 in
set_option maxHeartbeats 2000000 in
theorem add_bad {w : World} (b : Nat) (e : En) (he : ¬ chkE e = 0) (height : Int) :
    Calls Tryd.prog 8 #[.pointer (some ⟨b, 0, none⟩), .agg #[.string e.key, .int .u64 e.seq, .int .i64 e.kind, .string e.val], .int .i64 height] w fun r w' => r = .returned (.int .i64 (chkE e)) ∧ Below w.heap.size w w' := by
  obtain ⟨k0, k1, k2, k3⟩ := box4 (e_box (W := w) e 30)
  have hinf := ent_info
  have HC := Lib.hid (fun W => check_any e W)
  have B0 := Lib.hid ((Below.refl w.heap.size w).alloc (Nat.le_refl _) (.cells #[.string e.key, .int .u64 e.seq, .int .i64 e.kind, .string e.val] 30))
  generalize chkE e = n at he HC
  go_enter Tryd.func8, Tryd.ntmps8
  go_wp2_with (first
    | (go_at_call 20; (with_reducible refine (HC.out _).mono ?_); rintro r w1 ⟨rfl, b1⟩; have B1 := Lib.hid (B0.out.trans (b1.mono B0.out.size)); clear b1))
  go_ret
  exact ⟨rfl, B1.out⟩
theorem bytes_any {w : World} {b l n : Nat} {v : Value} {E : List En} {m : Int} (h : MemAt w b l v E n m) (hbig : bytesE E ≤ 1000000000) :
    Calls Tryd.prog 13 #[.pointer (some ⟨b, 0, none⟩)] w fun e w' => e = .returned (.int .i64 (bytesE E : Nat)) ∧ Below w.heap.size w w' := by
  have ht := total_e E h.good
  have hov := h.ov
  obtain ⟨k0, k1⟩ := box2 h.drew.box
  have HL := Lib.hid h.drew.lst
  have hw : IntKind.i64.wrap (((bytesE E + overE E : Nat) : Int) - (overE E : Int)) = (bytesE E : Int) := by rw [IntWalk.i64_in _ (by omega)]; omega
  have hw2 : IntKind.i64.wrap (bytesE E : Int) = (bytesE E : Int) := IntWalk.i64_in _ (by omega)
  have HT := Lib.hid ht
  clear ht h
  go_enter Tryd.func13, Tryd.ntmps13
  go_wp2
  go_region_held3 (fun wx => wx.cell? ⟨b, 0, none⟩ = some (.pointer (some ⟨l, 0, none⟩)) ∧ wx.cell? ⟨b, 1, none⟩ = some (.int .i64 (overE E : Nat)))
    (exact ⟨k0, k1⟩)
    (first
      | (go_at_call 31; refine (Sk.bytesL_any HL.out).mono ?_; rintro r w1 ⟨rfl, rfl⟩; rw [HT.out]))
  all_goals
    go_wp2
    go_ret
    exact ⟨rfl, below_drew w⟩
def RAdd (w : World) (v : Value) (e : En) (q : List En) (n : Int) (r : Ending) (w' : World) : Prop :=
  (∃ v', r = .returned (.tuple #[v', .int .i64 n]) ∧ ((¬ n = 0 ∧ v' = v) ∨ (n = 0 ∧ w'.ownsRow (w.heap.size + 1) 30 4 v' (wGo e q false []).length (eRow (wGo e q false []))))) ∧ Below w.heap.size w w'
theorem own_up {w : World} {b b' e size n : Nat} {v : Value} {xs : List Value} (h : w.ownsRow b e size v n xs) (hb : b' ≤ b) : w.ownsRow b' e size v n xs := Sk.own_mono h hb
/-! what they come to -/
theorem get_is {E : List En} (hg : ∀ x ∈ E, x.good) (hp : E.Pairwise (fun x y => ahead x y = true)) (k : ByteArray) (at_ : Nat) : getE E k at_ = rgetE E k at_ := by
  induction E with
  | nil => rfl
  | cons x E ih =>
    have hx := hg x (by simp)
    obtain ⟨hp1, hp2⟩ := List.pairwise_cons.1 hp
    have ih := ih (fun y hy => hg y (by simp [hy])) hp2
    have hk := hx.kd
    unfold getE upE rgetE at *
    rw [List.filter_cons, List.find?_cons]
    by_cases hkey : x.key = k
    · by_cases hs : x.seq ≤ at_
      · have ha : ahead x (least k at_) = false := by
          unfold ahead least
          simp only
          rw [if_pos hkey]
          by_cases h2 : x.seq = at_
          · rw [if_pos h2]; exact decide_eq_false (by omega)
          · rw [if_neg h2]; exact decide_eq_false (by omega)
        simp [ha, hkey, hs]
      · have ha : ahead x (least k at_) = true := by
          unfold ahead least
          simp only
          rw [if_pos hkey, if_neg (by omega)]; exact decide_eq_true (by omega)
        simp only [ha, Bool.not_true, Bool.false_eq_true, if_false, hkey, decide_true, Bool.true_and, decide_eq_false hs]
        exact ih
    · cases ha : ahead x (least k at_) with
      | true =>
        simp only [Bool.not_true, Bool.false_eq_true, if_false, decide_eq_false hkey, Bool.false_and]
        exact ih
      | false =>
        -- x is beyond: no entry of the key comes
        have hl : Sk.lt x.key k = false := by
          unfold ahead least at ha
          simp only at ha
          rw [if_neg hkey] at ha; exact ha
        have hrest : E.find? (fun x => decide (x.key = k) && decide (x.seq ≤ at_)) = none := by
          rw [List.find?_eq_none]
          intro y hy
          have h1 := hp1 y hy
          have hyk : ¬ y.key = k := fun e => by
            unfold ahead at h1
            rw [if_neg (fun e2 => hkey (e2.trans e))] at h1
            rw [e] at h1
            rw [h1] at hl; cases hl
          simp [hyk]
        simp [hkey, hrest]
theorem from_is {E : List En} (hg : ∀ x ∈ E, x.good) (k : ByteArray) : upE E (least k 18446744073709551615) = fromE E k := by
  unfold upE fromE
  refine List.filter_congr (fun x hx => ?_)
  congr 1
  have hs := (hg x hx).sq
  unfold ahead least
  simp only
  by_cases hk : x.key = k
  · rw [if_pos hk, if_neg (by omega), hk, Sk.lt_irr]; exact decide_eq_false (by omega)
  · rw [if_neg hk]
theorem down_is {E : List En} (hg : ∀ x ∈ E, x.good) (k : ByteArray) (hk0 : ¬ k = ⟨#[]⟩) : dnE E ⟨k, 0, 0, ⟨#[]⟩⟩ = downE E k := by
  unfold dnE downE
  congr 1
  refine List.filter_congr (fun x hx => ?_)
  have hkd := (hg x hx).kd
  rw [decide_eq_false hk0, Bool.false_or]
  congr 1
  unfold ahead
  simp only
  by_cases hk : k = x.key
  · rw [if_pos hk, hk, Sk.lt_irr]
    by_cases hs : (0 : Nat) = x.seq
    · rw [if_pos hs]; exact decide_eq_false (by omega)
    · rw [if_neg hs]; exact decide_eq_false (by omega)
  · rw [if_neg hk]
theorem down_all {E : List En} : downE E ⟨#[]⟩ = E.reverse := by
  unfold downE
  rw [Sk.filter_all (fun x _ => by simp)]
theorem from_all {E : List En} : fromE E ⟨#[]⟩ = E := by
  unfold fromE
  exact Sk.filter_all (fun x _ => by rw [Sk.lt_none]; rfl)
end Go.Proofs.YtadejeoiffaimaaDoor.Me
