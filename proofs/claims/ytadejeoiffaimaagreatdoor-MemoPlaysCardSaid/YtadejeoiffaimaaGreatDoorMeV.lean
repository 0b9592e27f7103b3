/-
  The entries of a memo, rising and falling; collected. Conditions: as each theorem states.
-/
import Derived.Test.YtadejeoiffaimaaGreatDoorMeU
import Derived.Test.YtadejeoiffaimaaGreatDoorMeF
import Derived.Maps.OwnIn
namespace Go.Proofs.YtadejeoiffaimaaGreatDoor.Me
open Go.RowKit Go.Shelf
open Vi
open Go.Proofs.YtadejeoiffaimaaGreatDoor.Rf
open Go.Proofs.YtadejeoiffaimaaGreatDoor.Sk (feet Lst Moves Only encP SkAt pairs TnL KpL CapL)

attribute [local go_sem] Oper.semAt_some

theorem mFrom_any {w : World} {b l n : Nat} {v : Value} {E : List En} {m : Int} (h : MemAt w b l v E n m) (key : ByteArray) (hk : key.size ≤ 1000000) :
    Calls Tryz.prog 21 #[.pointer (some ⟨b, 0, none⟩), .string key] w (FromPost w 63 (some ⟨l, 0, none⟩) (plc (least key 18446744073709551615))) := by
  have H := Lib.hid h
  have HW : Hid (least key 18446744073709551615).wf := ⟨by show 18446744073709551615 < 18446744073709551616; decide, by show (-9223372036854775808 : Int) ≤ 255; decide, by show (255 : Int) ≤ 9223372036854775807; decide⟩
  have HK : Hid ((least key 18446744073709551615).key.size ≤ 1000000) := hk
  have HK2 : Hid (key.size ≤ 281474976710656) := by rw [Hid]; omega
  clear h
  go_enter Tryz.func21, Tryz.ntmps21
  go_wp2_with (first
    | (go_at_call 35; refine (least_any _ key 18446744073709551615 HK2).mono ?_; rintro r w1 ⟨rfl, b1⟩; have H1 := Lib.hid (H.out.below b1); have B1 := Lib.hid b1; clear b1)
    | (go_at_call 34; refine (mfrom_any H1.out (least key 18446744073709551615) HW.out HK.out).mono ?_; rintro r w2 ⟨bl, rfl, hbl, hcap, b2⟩; have B2 := Lib.hid (B1.out.trans (b2.mono B1.out.size)); have C2 := Lib.hid (And.intro hcap hbl); clear b2 hcap hbl))
  go_ret
  exact ⟨bl, rfl, Nat.le_trans B1.out.size C2.out.2, C2.out.1, B2.out⟩
theorem mAll_any {w : World} {b l n : Nat} {v : Value} {E : List En} {m : Int} (h : MemAt w b l v E n m) :
    Calls Tryz.prog 20 #[.pointer (some ⟨b, 0, none⟩)] w (FromPost w 63 (some ⟨l, 0, none⟩) (plc (least ⟨#[]⟩ 18446744073709551615))) := by
  have H1 := Lib.hid h
  clear h
  go_enter Tryz.func20, Tryz.ntmps20
  go_wp2_with (first
    | (go_at_call 21; refine (mFrom_any H1.out ⟨#[]⟩ (by decide)).mono ?_; rintro r w1 ⟨bl, rfl, h⟩; have H := Lib.hid h; clear h))
  go_ret
  exact ⟨bl, rfl, H.out⟩
def downKey (key : ByteArray) : ByteArray := if key = ⟨#[]⟩ then ⟨#[]⟩ else plc ⟨key, 0, 0, ⟨#[]⟩⟩
theorem mDown_any {w : World} {b l n : Nat} {v : Value} {E : List En} {m : Int} (h : MemAt w b l v E n m) (key : ByteArray) (hk : key.size ≤ 1000000) :
    Calls Tryz.prog 22 #[.pointer (some ⟨b, 0, none⟩), .string key] w (FromPost w 55 (some ⟨l, 0, none⟩) (downKey key)) := by
  have H := Lib.hid h
  clear h
  by_cases hk0 : key = ⟨#[]⟩
  · subst hk0
    have he : (⟨#[]⟩ : ByteArray).toList = [] := ByteArray.toList_mk []
    rw [show downKey ⟨#[]⟩ = ⟨#[]⟩ from if_pos rfl]
    go_enter Tryz.func22, Tryz.ntmps22
    go_wp2_with (first
      | (go_at_call 36; refine (pairs_any H.out).mono ?_; rintro r w1 ⟨rfl, rfl⟩)
      | (go_at_call 40; refine (Sk.down_any _ l ⟨#[]⟩).mono ?_; rintro r w3 ⟨rfl, rfl⟩)
      | (go_at_call 39; refine (entries_any _ _ _).mono ?_; rintro r w4 ⟨rfl, rfl⟩))
    go_ret
    exact ⟨w.heap.size, rfl, Nat.le_refl _, acap_three w _ _ ⟨#[]⟩, three_below _ _ _⟩
  · rw [show downKey key = plc ⟨key, 0, 0, ⟨#[]⟩⟩ from if_neg hk0]
    obtain ⟨hq1, hq2⟩ := ne_lists hk0
    have he0 : (⟨#[]⟩ : ByteArray).toList = [] := ByteArray.toList_mk []
    rw [he0] at hq1 hq2
    have hq3 : key.toList.isEmpty = false := by cases h : key.toList with
      | nil => exact absurd h hq1
      | cons => rfl
    have HW : Hid (En.wf ⟨key, 0, 0, ⟨#[]⟩⟩) := ⟨by show 0 < 18446744073709551616; decide, by show (-9223372036854775808 : Int) ≤ 0; decide, by show (0 : Int) ≤ 9223372036854775807; decide⟩
    have HP : Hid (∀ W, MemAt W b l v E n m → Calls Tryz.prog 27 #[.agg #[.string key, .int .u64 0, .int .i64 0, .string ⟨#[]⟩]] W fun x w' => x = .returned (.string (plc ⟨key, 0, 0, ⟨#[]⟩⟩)) ∧ Below W.heap.size W w') := fun W hW => place_any ⟨key, 0, 0, ⟨#[]⟩⟩ HW.out hk m hW.glo
    clear hk0
    go_enter Tryz.func22, Tryz.ntmps22
    go_wp2_with (first
      | (go_at_call 36; refine (pairs_any H.out).mono ?_; rintro r w1 ⟨rfl, rfl⟩)
      | (go_at_call 27; (with_reducible refine (HP.out _ H.out).mono ?_); rintro r w2 ⟨rfl, b2⟩; have B2 := Lib.hid b2; clear b2)
      | (go_at_call 40; refine (Sk.down_any _ l (plc ⟨key, 0, 0, ⟨#[]⟩⟩)).mono ?_; rintro r w3 ⟨rfl, rfl⟩)
      | (go_at_call 39; refine (entries_any _ _ _).mono ?_; rintro r w4 ⟨rfl, rfl⟩))
    go_ret
    exact ⟨w2.heap.size, rfl, B2.out.size, acap_three w2 _ _ _, B2.out.trans ((three_below _ _ _).mono B2.out.size)⟩
end Go.Proofs.YtadejeoiffaimaaGreatDoor.Me
