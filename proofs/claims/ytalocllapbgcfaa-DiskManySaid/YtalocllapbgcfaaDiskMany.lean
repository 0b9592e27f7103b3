/-
  The law DiskMany returns true at every input. No condition.
-/
import Derived.Test.YtalocllapbgcfaaLaw
import Derived.Test.YtalocllapbgcfaaDiskM
namespace Go.Proofs.Ytalocllapbgcfaa.diskMany
open Go.ChangeShapes Go.WideShapes Go.ChangeAt Go.RowKit
open Go.Proofs.Ytalocllapbgcfaa

def ManyRel (w2 : World) (d m : Nat) (s16 : Value) (wr : World) : Prop :=
  ∃ (i : Nat) (L : List Ent), i ≤ 200 ∧ s16 = .int .i64 (i : Int) ∧ L.map Ent.name = (List.range i).map nm ∧ DiskAt wr d m L 10 (i : Int) (-1) (-1) false ∧ Moves w2 (feet d m []) wr (feet d m L)
theorem names_far {L : List Ent} {i : Nat} (h : L.map Ent.name = (List.range i).map nm) (hi : i < 200) : ∀ e ∈ L, e.name ≠ nm i := by
  intro e he e0
  have h1 : nm i ∈ L.map Ent.name := by rw [← e0]; exact List.mem_map_of_mem he
  rw [h] at h1
  obtain ⟨j, hj, hji⟩ := List.mem_map.1 h1
  have hj' : j < i := List.mem_range.1 hj
  have := nm_inj (by omega) hi hji
  omega
theorem names_z {L : List Ent} {i : Nat} (h : L.map Ent.name = (List.range i).map nm) : ∀ e ∈ L, e.name ≠ [122, 57] := by
  intro e he e0
  have h1 : [122, 57] ∈ L.map Ent.name := by rw [← e0]; exact List.mem_map_of_mem he
  rw [h] at h1
  obtain ⟨j, _, hji⟩ := List.mem_map.1 h1
  exact nm_z hji
theorem names_len {L : List Ent} {i : Nat} (h : L.map Ent.name = (List.range i).map nm) : L.length = i := by
  have := congrArg List.length h
  simpa using this
theorem names_more {L : List Ent} {i F : Nat} {v : Value} (h : L.map Ent.name = (List.range i).map nm) : (L ++ [(⟨nm i, [], 0, F, v⟩ : Ent)]).map Ent.name = (List.range (i + 1)).map nm := by
  rw [List.map_append, h, List.range_succ, List.map_append]; rfl
theorem names_has {L : List Ent} (h : L.map Ent.name = (List.range 200).map nm) {k : Nat} (hk : k < 200) : ∃ A e B, L = A ++ e :: B ∧ e.name = nm k := by
  have h1 : nm k ∈ L.map Ent.name := by rw [h]; exact List.mem_map_of_mem (List.mem_range.2 hk)
  obtain ⟨e, he, hn⟩ := List.mem_map.1 h1
  obtain ⟨A, B, rfl⟩ := List.append_of_mem he
  exact ⟨A, e, B, rfl, hn⟩
theorem name_at {x : Int} {k : Nat} (hx : x = k) (hk : k < 200) (w : World) :
    Calls Try.prog 34 #[.int .i64 x] w fun r w' => r = .returned (.string ⟨(nm k).toArray⟩) ∧ Below w.heap.size w w' := by
  subst hx; exact name_any k hk w
theorem mem_more {A B : List Ent} {e x : Ent} (h : x ∈ A ++ B) : x ∈ A ++ e :: B := by
  rcases List.mem_append.1 h with h | h
  · exact List.mem_append_left _ h
  · exact List.mem_append_right _ (List.mem_cons_of_mem _ h)
theorem can_i (i : Nat) (h : i ≤ 300) : CanStep (i : Int) (-1) (-1) := ⟨rfl, rfl, by omega, by omega, by omega, by omega, by omega, by omega⟩
theorem nm_size (k : Nat) : (⟨(nm k).toArray⟩ : ByteArray).size = 2 := rfl
set_option maxRecDepth 100000 in
set_option maxHeartbeats 1000000 in
theorem walk (g : Nat) (hg : g < 256) (w : World) : Calls Try.prog 9 #[.int .u8 (g : Int)] w fun e w' => e = .returned (.bool true) ∧ Below w.heap.size w w' := by
  go_enter Try.func9, Try.ntmps9
  go_wp2_with (first
    | (go_at_call 22; with_reducible refine (awake_disk _).mono ?_; rintro e w1 ⟨rfl, hb⟩)
    | (go_at_call 23; with_reducible refine (new_any 10 (by omega) (by omega) _).mono ?_; rintro r w2 ⟨rfl, hD2, hb2⟩; have HD2 := Lib.hid (And.intro hD2 hb2); clear hD2 hb2))
  go_loopw [16] (ManyRel w2 (w1.heap.size + 1) w1.heap.size) (fun i _ => 200 - (intOf i).toNat)
  case atStart => exact ⟨0, [], by omega, rfl, rfl, HD2.out.1, Moves.refl _ _⟩
  case round =>
    obtain ⟨i, L, hi, rfl, hn, hD, hM⟩ := hrel
    have HR := Lib.hid (And.intro hn (And.intro hD hM))
    clear hn hD hM
    by_cases hlt : i < 200
    · go_wp2_with (first
        | (go_at_call 34; refine (name_any i hlt _).mono ?_; rintro r w3 ⟨rfl, hb3⟩; have HD3 := Lib.hid (HR.out.2.1.below hb3))
        | (go_at_call 28
           (refine (create_ok HD3.out ⟨(nm i).toArray⟩ (by show (2 : Nat) ≤ _; decide) (by show (2 : Nat) ≤ _; decide) (nm_ok i hlt) (names_far HR.out.1 hlt) (by rw [names_len HR.out.1]; exact hlt) rfl rfl (by omega) (by omega) (by omega) (by omega) (by omega) (by omega)).mono ?_)
           rintro r w4 ⟨rfl, F, hD4, hM4⟩
           have HD4 := Lib.hid (And.intro hD4 hM4)
           clear hD4 hM4))
      go_roundw
      case rel => exact ⟨i + 1, _, by omega, by go_num, names_more HR.out.1, by rw [show ((i + 1 : Nat) : Int) = (i : Int) + 1 by omega]; exact HD4.out.1, HR.out.2.2.trans (Moves.trans ⟨Only.of_below hb3, fun _ hk => Or.inl hk⟩ HD4.out.2)⟩
      case measure => simp [intOf]; omega
    · have hi200 : i = 200 := by omega
      obtain ⟨A, e, B, hL, hen⟩ := names_has (hi200 ▸ HR.out.1) (show g % 200 < 200 by omega)
      have hlen := names_len HR.out.1
      have hz := Lib.hid (names_z HR.out.1)
      have HR' : Hid (DiskAt wr (w1.heap.size + 1) w1.heap.size (A ++ e :: B) 10 (i : Int) (-1) (-1) false ∧ Moves w2 (feet (w1.heap.size + 1) w1.heap.size []) wr (feet (w1.heap.size + 1) w1.heap.size (A ++ e :: B))) := by
        rw [← hL]; exact HR.out.2
      rw [hL] at hlen hz
      have HL := Lib.hid (And.intro hlen (And.intro hen hi200))
      clear hlen hen hL HR hi200
      have hm1 : (0 : Int) ≤ (g : Int) := by omega
      go_wp2_with (first
        | (go_at_call 28
           refine (create_many HR'.out.1 ⟨#[122, 57]⟩ (by show (2 : Nat) ≤ _; decide) (by decide) hz.out (by rw [HL.out.1]; exact HL.out.2.2)).mono ?_
           rintro r w3 ⟨rfl, rfl⟩)
        | (go_at_call 34; (refine (name_at (k := g % 200) (by omega) (by omega) _).mono ?_); rintro r w4 ⟨rfl, hb4⟩; have HD4 := Lib.hid (HR'.out.1.below hb4))
        | (go_at_call 35
           (refine (delete_ok HD4.out ⟨(nm (g % 200)).toArray⟩ (by show (2 : Nat) ≤ _; decide) HL.out.2.1 (can_i i (by omega))).mono ?_)
           rintro r w5 ⟨rfl, hD5, hM5⟩
           have HD5 := Lib.hid (And.intro hD5 hM5)
           clear hD5 hM5)
        | (go_at_call 28
           (refine (create_ok HD5.out.1 ⟨#[122, 57]⟩ (by show (2 : Nat) ≤ _; decide) (by show (2 : Nat) ≤ _; decide) (by decide) (fun x hx => hz.out x (mem_more hx)) (by have := HL.out.1; have := HL.out.2.2; simp at *; omega) rfl rfl (by show (-1 : Int) ≤ -1; omega) (by show (-1 : Int) ≤ -1; omega) (by show (-1 : Int) ≤ _; omega) (by show (-1 : Int) ≤ _; omega) (by omega) (by omega)).mono ?_)
           rintro r w6 ⟨rfl, F, hD6, hM6⟩
           have HD6 := Lib.hid (And.intro hD6 hM6)
           clear hD6 hM6)
        | (go_at_call 36
           refine (list_len (n := 200) HD6.out.1 (by have := HL.out.1; have := HL.out.2.2; simp at *; omega)).mono ?_
           rintro r w7 ⟨⟨la, lc, rfl⟩, hb7⟩))
      go_ret
      refine ⟨rfl, ?_⟩
      have e2 := ((HR'.out.2.trans (Moves.trans ⟨Only.of_below hb4, fun _ hk => Or.inl hk⟩ HD5.out.2)).trans HD6.out.2).below (new_low rfl rfl rfl HD2.out.2) HD2.out.2.size
      have z1 := hb.size
      have z2 := HD2.out.2.size
      have z3 := e2.size
      exact ((hb.trans (HD2.out.2.mono z1)).trans (e2.mono z1)).trans (hb7.mono (by omega))

theorem u8_lt {a : Int} (w0 : (Lit.int .u8 a).wf = true) : ∃ n : Nat, a = n ∧ n < 256 := by
  have hx : 0 ≤ a ∧ a ≤ 255 := by simpa [Lit.wf, IntKind.min, IntKind.max, IntKind.signed, IntKind.bits] using w0
  exact ⟨a.toNat, by omega, by omega⟩
set_option maxRecDepth 100000 in
theorem lifted (os : Os) (started : os.Started) (H : Type) (enc : TypeId × Value → H) :
    ReturnsInHanded {} Try.checked os 9 .any (Rows.diskManySpec.pre6 enc Try.prog Try.f9 Rows.diskManyRow.domain false) (Rows.diskManySpec.post enc Try.prog Try.f9 false true false false) := by
  refine returnsInHanded_of_change (C := Try.checked) own started (by kernel_rfl) Try.func9
    (ChangeSpec.witness6 (enc := enc) (C := Try.checked) false ⟨#[], #[.int .u8 0], []⟩ 8 (by kernel_rfl) (by kernel_rfl) (by kernel_rfl) (by kernel_rfl)) ?_
  intro W base args ds gs before hval0 hW hcnd _
  have hval : ∀ (j : Nat) t v, Try.f9.params[j]? = some t → args[j]? = some v → Value.okWide Try.prog W .any base t v := hval0
  have hW' := hW
  obtain ⟨p, q, hA0, hV, rfl, hfz, hnd⟩ := hW
  have hA : DataW.TrodAll enc Try.prog W 0 (fun _ => true) true Try.f9.params.toList args.toList ds p := hA0
  rw [Try.params9] at hA hval
  obtain ⟨v0, vs0, d0, ds0, p0, q0, hargs, rfl, rfl, h0, r0⟩ := trodAll_cons hA
  obtain ⟨rfl, rfl, rfl⟩ := trodAll_nil r0
  obtain rfl : args = #[v0] := by cases args; simp_all
  obtain ⟨a0, rfl, rfl, rfl, w0⟩ := open_int Try.underlying5 (hval 0 5 v0 rfl rfl) h0
  obtain ⟨g, rfl, hg⟩ := u8_lt w0
  refine (walk g hg W).mono fun e W' ⟨he, hb⟩ => ?_
  exact ⟨_, he, post_law hW' rfl rfl rfl (by rw [Try.params9]; decide +kernel) hb⟩

theorem proved : Rows.DiskManySaid :=
  OpenClaim.holds_of_wide 9 Try.f9 rfl rfl rfl rfl rfl rfl rfl ⟨rfl, rfl, rfl, rfl, rfl⟩ rfl rfl rfl rfl rfl (by kernel_rfl) Try.func9 (by kernel_rfl)
    (of_decide_eq_true (by kernel_rfl)) (by unfold Func.isWrapper; first | (rw [if_pos (by decide +kernel)]; kernel_rfl) | (rw [if_neg (by decide +kernel)]; exact ⟨rfl, rfl⟩))
    (fun os started H enc _ => lifted os started H enc)
#print axioms proved
end Go.Proofs.Ytalocllapbgcfaa.diskMany
