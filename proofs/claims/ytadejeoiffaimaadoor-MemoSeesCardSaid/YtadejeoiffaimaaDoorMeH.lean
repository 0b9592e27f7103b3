/-
  The chapter's example, walked: it holds. Conditions: as each theorem states.
-/
import Derived.Test.YtadejeoiffaimaaDoorMeG
namespace Go.Proofs.YtadejeoiffaimaaDoor.Me
open Go.RowKit
open Vi
open Go.Proofs.YtadejeoiffaimaaDoor.Sk (feet Lst Moves Only)

def ea : En := ⟨⟨#[97]⟩, 1, 1, ⟨#[120]⟩⟩
def eb : En := ⟨⟨#[97]⟩, 2, 2, ⟨#[]⟩⟩
theorem ea_good : ea.good := ⟨by decide, by decide, .inl rfl, by decide⟩
theorem eb_good : eb.good := ⟨by decide, by decide, .inr rfl, by decide⟩
theorem add_ea : addE [] ea = [ea] := rfl
theorem add_eb : addE [ea] eb = [eb, ea] := by
  have h1 : ahead ea eb = false := by unfold ahead; rw [if_pos (by rfl), if_neg (by decide)]; rfl
  have h2 : ahead eb ea = true := by unfold ahead; rw [if_pos (by rfl), if_neg (by decide)]; rfl
  simp [addE, h1, h2]
theorem get_one : getE [eb, ea] ⟨#[97]⟩ 1 = some ea := by
  have h1 : ahead eb (least ⟨#[97]⟩ 1) = true := by unfold ahead; rw [if_pos (by rfl), if_neg (by decide)]; rfl
  have h2 : ahead ea (least ⟨#[97]⟩ 1) = false := by unfold ahead; rw [if_pos (by rfl), if_pos (by rfl)]; rfl
  simp [getE, upE, h1, h2]; rfl
theorem get_nine : getE [eb, ea] ⟨#[97]⟩ 9 = some eb := by
  have h1 : ahead eb (least ⟨#[97]⟩ 9) = false := by unfold ahead; rw [if_pos (by rfl), if_neg (by decide)]; rfl
  simp [getE, upE, h1]; rfl
section
variable {w : World} {b l n : Nat} {v : Value} {m : Int}
theorem add_1 (h : MemAt w b l v [] n m) (hn : n < 65000) :
    Calls Tryd.prog 8 #[.pointer (some ⟨b, 0, none⟩), .agg #[.string ⟨#[97]⟩, .int .u64 1, .int .i64 1, .string ⟨#[120]⟩], .int .i64 1] w (AddPost w b l v [ea] n m) := by
  have := add_any h ea ea_good (by decide) hn 1
  rw [add_ea] at this
  exact this
theorem add_2 (h : MemAt w b l v [ea] n m) (hn : n < 65000) :
    Calls Tryd.prog 8 #[.pointer (some ⟨b, 0, none⟩), .agg #[.string ⟨#[97]⟩, .int .u64 2, .int .i64 2, .string ⟨#[]⟩], .int .i64 2] w (AddPost w b l v [eb, ea] n m) := by
  have := add_any h eb eb_good (by decide) hn 2
  rw [add_eb] at this
  exact this
theorem get_1 (h : MemAt w b l v [eb, ea] n m) :
    Calls Tryd.prog 9 #[.pointer (some ⟨b, 0, none⟩), .string ⟨#[97]⟩, .int .u64 1] w fun r w' => r = .returned (.tuple #[.agg #[.string ⟨#[97]⟩, .int .u64 1, .int .i64 1, .string ⟨#[120]⟩], .bool true]) ∧ MemAt w' b l v [eb, ea] n m ∧ Only (feet l v) w w' := by
  have := get_any h ⟨#[97]⟩ (by decide) 1 (by decide)
  rw [get_one] at this
  exact this
theorem get_2 (h : MemAt w b l v [eb, ea] n m) :
    Calls Tryd.prog 9 #[.pointer (some ⟨b, 0, none⟩), .string ⟨#[97]⟩, .int .u64 9] w fun r w' => r = .returned (.tuple #[.agg #[.string ⟨#[97]⟩, .int .u64 2, .int .i64 2, .string ⟨#[]⟩], .bool true]) ∧ MemAt w' b l v [eb, ea] n m ∧ Only (feet l v) w w' := by
  have := get_any h ⟨#[97]⟩ (by decide) 9 (by decide)
  rw [get_nine] at this
  exact this
end
theorem Awake7_any (w : World) : Calls Tryd.prog 18 #[] w fun e w' => e = .returned (.bool true) ∧ Below w.heap.size w w' := by
  go_enter Tryd.func18, Tryd.ntmps18
  go_wp2_with (go_at_call 34; refine (Sk.awake_any _).mono ?_; rintro e w1 ⟨rfl, hb⟩)
  go_ret
  exact ⟨rfl, hb⟩
theorem moves_get {w w' : World} {b l : Nat} {v : Value} (h : Only (feet l v) w w') : Moves w (mfeet b l v) w' (mfeet b l v) := moves_cons ⟨h, fun _ hk => .inl hk⟩ b
set_option maxRecDepth 100000 in
set_option maxHeartbeats 4000000 in
theorem awake_any (w : World) (m : Int) (hm : w.cell? ⟨0, 0, none⟩ = some (.int .i64 m)) : Calls Tryd.prog 5 #[] w fun e w' => e = .returned (.bool true) ∧ Below w.heap.size w w' := by
  have HM := Lib.hid hm
  have hinf := ent_info
  have hab : ((⟨#[120]⟩ : ByteArray).toList == (⟨#[120]⟩ : ByteArray).toList) = true := by simp
  clear hm
  go_enter Tryd.func5, Tryd.ntmps5
  go_wp2_with (first
    | (go_at_call 7; refine (new_any m HM.out).mono ?_; rintro e w1 ⟨b, l, rfl, h1, hf1, b1⟩; have H1 := Lib.hid h1; have B1 := Lib.hid (And.intro hf1 b1); clear h1 hf1 b1)
    | (go_at_call 18; refine (Awake7_any _).mono ?_; rintro e w2 ⟨rfl, b2⟩; have H2 := Lib.hid (H1.out.below b2); have M2 : Hid (Moves w1 (mfeet b l (.slice none 0 0)) w2 (mfeet b l (.slice none 0 0))) := Moves.of_below b2; clear b2)
    | (go_at_call 8; have Z := H3; (with_reducible refine (add_2 H3.out (by omega)).mono ?_); rintro e w4 ⟨rfl, v4, n4, h4, hn4, m4⟩; have H4 := Lib.hid h4; have M4 := Lib.hid (M3.out.trans m4); clear h4 m4)
    | (go_at_call 8; (with_reducible refine (add_1 H2.out (by decide)).mono ?_); rintro e w3 ⟨rfl, v3, n3, h3, hn3, m3⟩; have H3 := Lib.hid h3; have M3 := Lib.hid (M2.out.trans m3); clear h3 m3)
    | (go_at_call 9; have Z := H5; (with_reducible refine (get_2 H5.out).mono ?_); rintro e w6 ⟨rfl, h6, o6⟩; have X6 := (o6.block w5.heap.size (by simp) (fun hm => by have := F5.out _ hm; omega)).trans (heap_alloc_new w5 (.cells #[.string ⟨#[97]⟩, .int .u64 1, .int .i64 1, .string ⟨#[120]⟩] 30)); obtain ⟨z0, z1, z2, z3⟩ := box4 (old_alloc X6 (.cells #[.string ⟨#[97]⟩, .int .u64 2, .int .i64 2, .string ⟨#[]⟩] 30)); have M6 := Lib.hid ((M5.out.trans (moves_get (b := b) o6)).new (.cells #[.string ⟨#[97]⟩, .int .u64 2, .int .i64 2, .string ⟨#[]⟩] 30)); clear h6 o6 X6)
    | (go_at_call 9; have Z := H4; (with_reducible refine (get_1 H4.out).mono ?_); rintro e w5 ⟨rfl, h5, o5⟩; have H5 := Lib.hid (h5.below ((Below.refl _ w5).alloc (Nat.le_refl _) (.cells #[.string ⟨#[97]⟩, .int .u64 1, .int .i64 1, .string ⟨#[120]⟩] 30))); have M5 := Lib.hid ((M4.out.trans (moves_get (b := b) o5)).new (.cells #[.string ⟨#[97]⟩, .int .u64 1, .int .i64 1, .string ⟨#[120]⟩] 30)); have F5 := Lib.hid h5.lst.lt; clear h5 o5))
  go_ret
  exact ⟨rfl, B1.out.2.trans (M6.out.below B1.out.1 B1.out.2.size)⟩
end Go.Proofs.YtadejeoiffaimaaDoor.Me
