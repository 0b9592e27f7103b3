/-
  What is made is parsed as it was; the chapter's example. Conditions: as each theorem states.
-/
import Derived.Test.YtelbhegkaihjhaaDoorScF
import Derived.Deep.RegionHeldLaw
namespace Go.Proofs.YtelbhegkaihjhaaDoor
open Go.RowKit
open Vi

def Small (p : KPart) : Prop := (pbytes p).2 = 0 ∧ (pbytes p).1.length ≤ 9
theorem small_up (n : Int) : Small (kUp n) := by unfold Small; rw [pb_up]; simp [big8_len]
theorem small_down (n : Int) : Small (kDown n) := by unfold Small; rw [pb_down]; simp [big8_len]
theorem small_count (n : Nat) : Small (kCount n) := by unfold Small; rw [pb_count]; simp [big8_len]
theorem small_one (c : UInt8) : Small (kText ⟨#[c]⟩) := by
  have h := esc_len [c]
  unfold Small; rw [pb_text (by show 1 ≤ 200; decide)]
  refine ⟨rfl, ?_⟩
  show (116 :: (esc [c] ++ [0, 0])).length ≤ 9
  simp at h ⊢; omega
theorem small_len : ∀ l : List KPart, (∀ p ∈ l, Small p) → (kbytes l).length ≤ 9 * l.length
  | [], _ => by simp [kbytes]
  | p :: l, h => by
    have e : kbytes (p :: l) = (pbytes p).1 ++ kbytes l := rfl
    have := small_len l (fun q hq => h q (by simp [hq]))
    have := (h p (by simp)).2
    rw [e, List.length_append, List.length_cons]; omega
theorem small_key {t : Th} (h : ∀ p ∈ rowK t, Small p) : mkGo [] (rowK t) = (kbytes (rowK t), 0) := by
  have h1 := small_len _ h
  have h2 : (rowK t).length ≤ 5 := by have := formK_len t.sort; unfold rowK; simp; omega
  exact mkGo_all _ [] (fun p hp => (h p hp).1) (by simp; omega)
theorem small_A (a : Nat) (k : Int) : ∀ p ∈ rowK (thA a k), Small p := by
  intro p hp; rw [rowK_at (show formK _ = _ from formK_a)] at hp
  simp only [List.map_cons, List.map_nil, partK_a, partK_k, List.mem_cons, List.not_mem_nil, or_false] at hp
  rcases hp with rfl | rfl | rfl
  · exact small_one _
  · exact small_count _
  · exact small_up _
theorem small_O (i : Nat) : ∀ p ∈ rowK (thO i), Small p := by
  intro p hp; rw [rowK_at (show formK _ = _ from formK_o)] at hp
  simp only [List.map_cons, List.map_nil, partK_i, List.mem_cons, List.not_mem_nil, or_false] at hp
  rcases hp with rfl | rfl
  · exact small_one _
  · exact small_count _
theorem small_E (t i : Nat) : ∀ p ∈ rowK (thE t i), Small p := by
  intro p hp; rw [rowK_at (show formK _ = _ from formK_e)] at hp
  simp only [List.map_cons, List.map_nil, partK_i, partK_t, List.mem_cons, List.not_mem_nil, or_false] at hp
  rcases hp with rfl | rfl | rfl
  · exact small_one _
  · exact small_count _
  · exact small_count _
theorem small_B (k p : Int) (r i : Nat) : ∀ q ∈ rowK (thB k p r i), Small q := by
  intro q hp; rw [rowK_at (show formK _ = _ from formK_b)] at hp
  simp only [List.map_cons, List.map_nil, partK_k, partK_p, partK_r, partK_i, List.mem_cons, List.not_mem_nil, or_false] at hp
  rcases hp with rfl | rfl | rfl | rfl | rfl
  · exact small_one _
  · exact small_up _
  · split
    · exact small_down _
    · exact small_up _
  · exact small_count _
  · exact small_count _
theorem keyB_small {t : Th} (h : ∀ p ∈ rowK t, Small p) : keyB t = kbytes (rowK t) := by unfold keyB; rw [small_key h]
theorem keyE_small {t : Th} (h : ∀ p ∈ rowK t, Small p) : keyE t = 0 := by unfold keyE; rw [small_key h]
theorem keyB_len {t : Th} (h : ∀ p ∈ rowK t, Small p) : (keyB t).length ≤ 45 := by
  rw [keyB_small h]
  have h1 := small_len _ h
  have h2 : (rowK t).length ≤ 5 := by have := formK_len t.sort; unfold rowK; simp; omega
  omega
/-- what is made is parsed as it was -/
theorem parse_made {t : Th} (ht : t.ok) (h : ∀ p ∈ rowK t, Small p) (hf : fits t.kind) (hd : docRow (rowK t) = some t) : parseK (keyB t) = some t := by
  rw [← doc_parse]
  unfold docParse
  have hl := keyB_len h
  rw [if_neg (by omega)]
  have e : mkGo [] (rowK t) = (keyB t, 0) := by rw [small_key h, keyB_small h]
  have hp := pparts_made (rowK_ok ht) e
  rw [plain_map _ (rowK_plain t)] at hp
  rw [hp]
  simp only [hd]
  rw [if_pos ⟨hf, e⟩]
theorem made_O (i : Nat) (hi : i < 18446744073709551616) : parseK (keyB (thO i)) = some (thO i) := by
  refine parse_made ⟨nat0, hi, int0, int0, nat0, nat0⟩ (small_O i) fz ?_
  rw [rowK_at (show formK _ = _ from formK_o)]
  show docRow [kText ⟨#[111]⟩, partK 105 (thO i)] = _
  rw [docRow_t rfl, docTail_o (show (kText ⟨#[111]⟩).s = bs [111] from rfl), partK_i]; rfl
theorem made_B (k p : Int) (r i : Nat) (hk : k = 1 ∨ k = 2) (hp : -9223372036854775808 ≤ p ∧ p ≤ 9223372036854775807) (hr : r < 18446744073709551616) (hi : i < 18446744073709551616) : parseK (keyB (thB k p r i)) = some (thB k p r i) := by
  have hf : fits k := by unfold fits; omega
  refine parse_made ⟨nat0, hi, (by show _ ≤ k ∧ k ≤ _; omega), hp, hr, nat0⟩ (small_B k p r i) hf ?_
  rw [rowK_at (show formK _ = _ from formK_b)]
  show docRow [kText ⟨#[98]⟩, partK 107 (thB k p r i), partK 112 (thB k p r i), partK 114 (thB k p r i), partK 105 (thB k p r i)] = _
  rw [docRow_t rfl, docTail_b (show (kText ⟨#[98]⟩).s = bs [98] from rfl), partK_k, partK_p, partK_r, partK_i]
  rcases hk with rfl | rfl
  · rfl
  · rfl
theorem key_order1 : keyB (thO 1) = [116, 111, 0, 0, 117, 0, 0, 0, 0, 0, 0, 0, 1] := by
  rw [keyB_small (small_O 1), rowK_at (show formK _ = _ from formK_o)]
  show kbytes [kText ⟨#[111]⟩, partK 105 (thO 1)] = _
  rw [partK_i]
  have e : kbytes [kText ⟨#[111]⟩, kCount (thO 1).id] = (pbytes (kText ⟨#[111]⟩)).1 ++ ((pbytes (kCount 1)).1 ++ []) := rfl
  rw [e, pb_text (by show 1 ≤ 200; decide), pb_count]
  have e2 : big8 1 = [0, 0, 0, 0, 0, 0, 0, 1] := by unfold big8; simp [little_succ, little_zero]
  rw [e2]
  rfl
set_option maxRecDepth 100000 in
set_option maxHeartbeats 1000000 in
theorem awake_any (w : World) (m : Int) (hm : Cell0 m w) : Calls Tryd.prog 6 #[] w fun e w' => e = .returned (.bool true) ∧ Below w.heap.size w w' := by
  have HO : Hid (∀ W : World, Cell0 m W → Calls Tryd.prog 14 #[.int .u64 1] W fun e w' => e = .returned (.string ⟨#[116, 111, 0, 0, 117, 0, 0, 0, 0, 0, 0, 0, 1]⟩) ∧ Below W.heap.size W w') := fun W h => by
    have := order_any (w := W) 1 (by decide) m h
    rw [key_order1] at this; exact this
  have HP : Hid (∀ W : World, Cell0 m W → Calls Tryd.prog 10 #[.string ⟨#[116, 111, 0, 0, 117, 0, 0, 0, 0, 0, 0, 0, 1]⟩] W fun e w' => e = .returned (.tuple #[.agg #[.string ⟨#[111]⟩, .int .u64 0, .int .u64 1, .int .i64 0, .int .i64 0, .int .u64 0, .int .u64 0, .string ⟨#[]⟩], .int .i64 0]) ∧ Below W.heap.size W w') := fun W h => by
    have := parse_all (w := W) (keyB (thO 1)) (by have := keyB_len (small_O 1); omega) m h
    rw [made_O 1 (by decide), key_order1] at this; exact this
  have M0 := Lib.hid hm
  clear hm
  go_enter Tryd.func6, Tryd.ntmps6
  go_wp2_with (first
    | (go_at_call 14; have Z := M2; (with_reducible refine (HO.out _ (cell0_alloc M2.out _)).mono ?_); rintro e w3 ⟨rfl, b3⟩; have H3 := (b3.block w2.heap.size (by simp)).trans (heap_alloc_new w2 _); obtain ⟨d0, d1, d2, d3, d4, d5, d6, d7⟩ := eight_cells H3)
    | (go_at_call 14; (with_reducible refine (HO.out _ M0.out).mono ?_); rintro e w1 ⟨rfl, b1⟩; have M1 := Lib.hid (cell0_on M0.out b1))
    | (go_at_call 10; (with_reducible refine (HP.out _ M1.out).mono ?_); rintro e w2 ⟨rfl, b2⟩; have M2 := Lib.hid (cell0_on M1.out b2)))
  go_ret
  have B2 := b1.trans (b2.mono b1.size)
  have B3 := B2.alloc B2.size (.cells #[.string ⟨#[111]⟩, .int .u64 0, .int .u64 1, .int .i64 0, .int .i64 0, .int .u64 0, .int .u64 0, .string ⟨#[]⟩] 24)
  exact ⟨rfl, B3.trans (b3.mono B3.size)⟩
end Go.Proofs.YtelbhegkaihjhaaDoor
