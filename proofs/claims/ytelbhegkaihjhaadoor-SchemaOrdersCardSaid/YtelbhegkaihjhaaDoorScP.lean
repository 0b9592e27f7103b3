/-
  The law of orders' places: keys in their order, mathematics; the law by its cases. Conditions: as each theorem states.
-/
import Derived.Test.YtelbhegkaihjhaaDoorScO1
import Derived.Test.YtelbhegkaihjhaaDoorScO2
import Derived.Test.YtelbhegkaihjhaaDoorScO3
import Derived.Test.YtelbhegkaihjhaaDoorScO4
namespace Go.Proofs.YtelbhegkaihjhaaDoor
open Go.RowKit
open Vi

theorem side_two (n : Int) : wrap64 (1 + bits .and .i64 n 1) = 1 ∨ wrap64 (1 + bits .and .i64 n 1) = 2 := by
  have e : bits .and .i64 n 1 = (((BitVec.ofInt 64 n).toNat % 2 : Nat) : Int) := by
    show IntKind.i64.wrap ((BitVec.ofInt 64 n &&& BitVec.ofInt 64 1).toNat : Int) = _
    rw [BitVec.toNat_and, show (BitVec.ofInt 64 1).toNat = 1 from rfl, Nat.and_one_is_mod, IntKind.wrap_i64]; omega
  rw [e]; unfold wrap64; omega
theorem row_B (k p : Int) (r i : Nat) : rowK (thB k p r i) = [kText ⟨#[98]⟩, kUp k, if k = 1 then kDown p else kUp p, kCount r, kCount i] := by
  rw [rowK_at (show formK _ = _ from formK_b)]
  simp only [List.map_cons, List.map_nil, partK_k, partK_p, partK_r, partK_i]; rfl
theorem row_E (t i : Nat) : rowK (thE t i) = [kText ⟨#[101]⟩, kCount t, kCount i] := by
  rw [rowK_at (show formK _ = _ from formK_e)]
  simp only [List.map_cons, List.map_nil, partK_t, partK_i]; rfl
theorem rows_less {a b : Th} (ha : a.ok) (hb : b.ok) (sa : ∀ p ∈ rowK a, Small p) (sb : ∀ p ∈ rowK b, Small p) : Op.bytesLess (keyB a) (keyB b) = pless (rowK a) (rowK b) := by
  rw [keyB_small sa, keyB_small sb]
  exact bl_rows _ _ (fun p hp => ⟨rowK_ok ha p hp, (sa p hp).1⟩) (fun p hp => ⟨rowK_ok hb p hp, (sb p hp).1⟩)
theorem cmp_up (m n : Int) : pcmp (kUp m) (kUp n) = cmpI m n := by unfold pcmp; rfl
theorem cmp_down (m n : Int) : pcmp (kDown m) (kDown n) = cmpI n m := by unfold pcmp; rfl
theorem cmp_count (m n : Nat) : pcmp (kCount m) (kCount n) = cmpI m n := by unfold pcmp; rfl
theorem cmp_one (c : UInt8) : pcmp (kText ⟨#[c]⟩) (kText ⟨#[c]⟩) = 0 := by
  unfold pcmp cmpS
  simp [bl_irrefl, kText]
/-- which of two rows of two counts stands ahead -/
theorem less_two (r i r2 i2 : Nat) : pless [kCount r, kCount i] [kCount r2, kCount i2] = (decide (r < r2) || (decide (r = r2) && decide (i < i2))) := by
  by_cases h1 : r < r2
  · rw [pless_off (by rw [cmp_count, cmpI_lt (by omega)]; decide), cmp_count, cmpI_lt (by omega)]; simp [h1]
  · by_cases h2 : r = r2
    · subst h2
      rw [pless_on (by rw [cmp_count, cmpI_eq (by omega) (by omega)])]
      by_cases h3 : i < i2
      · rw [pless_off (by rw [cmp_count, cmpI_lt (by omega)]; decide), cmp_count, cmpI_lt (by omega)]; simp [h3]
      · by_cases h4 : i2 < i
        · rw [pless_off (by rw [cmp_count, cmpI_gt (by omega)]; decide), cmp_count, cmpI_gt (by omega)]; simp [h3]
        · rw [pless_on (by rw [cmp_count, cmpI_eq (by omega) (by omega)])]; simp [h3, pless]
    · rw [pless_off (by rw [cmp_count, cmpI_gt (by omega)]; decide), cmp_count, cmpI_gt (by omega)]; simp [h1, h2]
theorem less_E (t i t2 i2 : Nat) : pless (rowK (thE t i)) (rowK (thE t2 i2)) = (decide (t < t2) || (decide (t = t2) && decide (i < i2))) := by
  rw [row_E, row_E, pless_on (cmp_one _), less_two]
theorem less_B_side (k p k2 p2 : Int) (r i r2 i2 : Nat) (h : ¬ k = k2) : pless (rowK (thB k p r i)) (rowK (thB k2 p2 r2 i2)) = decide (k < k2) := by
  rw [row_B, row_B, pless_on (cmp_one _)]
  by_cases h1 : k < k2
  · rw [pless_off (by rw [cmp_up, cmpI_lt h1]; decide), cmp_up, cmpI_lt h1]; simp [h1]
  · rw [pless_off (by rw [cmp_up, cmpI_gt (by omega)]; decide), cmp_up, cmpI_gt (by omega)]; simp [h1]
theorem less_B_price (k p p2 : Int) (r i r2 i2 : Nat) (h : ¬ p = p2) : pless (rowK (thB k p r i)) (rowK (thB k p2 r2 i2)) = if k = 1 then decide (p2 < p) else decide (p < p2) := by
  rw [row_B, row_B, pless_on (cmp_one _), pless_on (by rw [cmp_up, cmpI_eq (by omega) (by omega)])]
  by_cases hk : k = 1
  · rw [if_pos hk, if_pos hk, if_pos hk]
    by_cases h1 : p2 < p
    · rw [pless_off (by rw [cmp_down, cmpI_lt h1]; decide), cmp_down, cmpI_lt h1]; simp [h1]
    · rw [pless_off (by rw [cmp_down, cmpI_gt (by omega)]; decide), cmp_down, cmpI_gt (by omega)]; simp [h1]
  · rw [if_neg hk, if_neg hk, if_neg hk]
    by_cases h1 : p < p2
    · rw [pless_off (by rw [cmp_up, cmpI_lt h1]; decide), cmp_up, cmpI_lt h1]; simp [h1]
    · rw [pless_off (by rw [cmp_up, cmpI_gt (by omega)]; decide), cmp_up, cmpI_gt (by omega)]; simp [h1]
theorem less_B_rank (k p : Int) (r i r2 i2 : Nat) : pless (rowK (thB k p r i)) (rowK (thB k p r2 i2)) = (decide (r < r2) || (decide (r = r2) && decide (i < i2))) := by
  rw [row_B, row_B, pless_on (cmp_one _), pless_on (by rw [cmp_up, cmpI_eq (by omega) (by omega)]), pless_on ?_, less_two]
  by_cases hk : k = 1
  · rw [if_pos hk, cmp_down, cmpI_eq (by omega) (by omega)]
  · rw [if_neg hk, cmp_up, cmpI_eq (by omega) (by omega)]
theorem less_L {r r2 : Nat} (h : r < r2) (i i2 : Nat) : (decide (r < r2) || (decide (r = r2) && decide (i < i2))) = true := by simp [h]
theorem less_G {r r2 : Nat} (h : ¬ r < r2) (h2 : ¬ r = r2) (i i2 : Nat) : (decide (r < r2) || (decide (r = r2) && decide (i < i2))) = false := by simp [h, h2]
theorem less_Q (r i i2 : Nat) : (decide (r < r) || (decide (r = r) && decide (i < i2))) = decide (i < i2) := by simp
theorem int_less (i i2 : Nat) : decide ((i : Int) < (i2 : Int)) = decide (i < i2) := by
  by_cases h : i < i2
  · rw [decide_eq_true h, decide_eq_true (by omega)]
  · rw [decide_eq_false h, decide_eq_false (by omega)]
def rg64 (n : Int) : Prop := -9223372036854775808 ≤ n ∧ n ≤ 9223372036854775807
theorem orders_walk {w : World} (ia ca ra xa : Nat) (da pa za la sa : Int) (ib cb rb xb : Nat) (db pb zb lb sb : Int) (hia : ia < 18446744073709551616) (hra : ra < 18446744073709551616) (hpa : rg64 pa) (hib : ib < 18446744073709551616) (hrb : rb < 18446744073709551616) (hpb : rg64 pb) (m : Int) (hm : Cell0 m w) :
    Calls Tryd.prog 5 #[.agg #[.int .u64 ia, .int .u64 ca, .int .i64 da, .int .i64 pa, .int .i64 za, .int .i64 la, .int .u64 ra, .int .u64 xa, .int .i64 sa], .agg #[.int .u64 ib, .int .u64 cb, .int .i64 db, .int .i64 pb, .int .i64 zb, .int .i64 lb, .int .u64 rb, .int .u64 xb, .int .i64 sb]] w fun e w' => e = .returned (.bool true) ∧ Below w.heap.size w w' := by
  have tA := side_two da
  have tB := side_two db
  obtain ⟨Sa, eA⟩ : ∃ Sa, wrap64 (1 + bits .and .i64 da 1) = Sa := ⟨_, rfl⟩
  obtain ⟨Sb, eB⟩ : ∃ Sb, wrap64 (1 + bits .and .i64 db 1) = Sb := ⟨_, rfl⟩
  rw [eA] at tA
  rw [eB] at tB
  have rA : rg64 Sa := by unfold rg64; omega
  have rB : rg64 Sb := by unfold rg64; omega
  have PA := fun (W : World) (h : Cell0 m W) => place_any (w := W) ia ca Sa pa za la ra xa sa hia rA hpa hra m h
  have PB := fun (W : World) (h : Cell0 m W) => place_any (w := W) ib cb Sb pb zb lb rb xb sb hib rB hpb hrb m h
  have EA := fun (W : World) (h : Cell0 m W) => expiry_any (w := W) ra ia hra hia m h
  have EB := fun (W : World) (h : Cell0 m W) => expiry_any (w := W) rb ib hrb hib m h
  have PS : ∀ W : World, Cell0 m W → Calls Tryd.prog 10 #[.string (bs (keyB (thB Sa pa ra ia)))] W fun e w' => e = .returned (.tuple #[.agg #[.string ⟨#[98]⟩, .int .u64 0, .int .u64 ia, .int .i64 Sa, .int .i64 pa, .int .u64 ra, .int .u64 0, .string ⟨#[]⟩], .int .i64 0]) ∧ Below W.heap.size W w' := fun W h => by
    have := parse_all (w := W) (keyB (thB Sa pa ra ia)) (by have := keyB_len (small_B Sa pa ra ia); omega) m h
    rw [made_B Sa pa ra ia tA hpa hra hia] at this
    exact this
  have oA : (thB Sa pa ra ia).ok := ⟨nat0, hia, rA, hpa, hra, nat0⟩
  have oB : (thB Sb pb rb ib).ok := ⟨nat0, hib, rB, hpb, hrb, nat0⟩
  have oE : (thE ra ia).ok := ⟨nat0, hia, int0, int0, nat0, hra⟩
  have oF : (thE rb ib).ok := ⟨nat0, hib, int0, int0, nat0, hrb⟩
  have PL := rows_less oA oB (small_B _ _ _ _) (small_B _ _ _ _)
  have EL := rows_less oE oF (small_E _ _) (small_E _ _)
  rw [less_E] at EL
  by_cases hs : Sa = Sb
  · subst hs
    by_cases hp : pa = pb
    · subst hp
      rw [less_B_rank] at PL
      have BT : Hid (∀ W : World, Calls Tryd.prog 20 #[.int .i64 Sa, .int .i64 pa, .int .i64 pa] W fun e w' => e = .returned (.bool false) ∧ W = w') := fun W => better_any Sa pa pa W false (by rcases tA with h | h <;> simp [h])
      by_cases hr : ra < rb
      · rw [less_L hr] at PL EL
        exact orders_C4L ia ca ra xa da pa za la sa ib cb rb xb db zb lb sb Sa eA eB m hm _ _ _ _ BT hr PA PB EA EB PS PL EL
      · by_cases hr2 : ra = rb
        · subst hr2
          rw [less_Q] at PL EL
          exact orders_C6E ia ca ra xa da pa za la sa ib cb xb db zb lb sb Sa eA eB m hm _ _ _ _ BT _ rfl PA PB EA EB PS PL EL
        · rw [less_G hr hr2] at PL EL
          exact orders_C5G ia ca ra xa da pa za la sa ib cb rb xb db zb lb sb Sa eA eB m hm _ _ _ _ BT hr (by simp; omega) PA PB EA EB PS PL EL
    · rw [less_B_price _ _ _ _ _ _ _ hp] at PL
      obtain ⟨bt, hbt⟩ : ∃ bt, (if Sa = 1 then decide (pb < pa) else decide (pa < pb)) = bt := ⟨_, rfl⟩
      rw [hbt] at PL
      have BT : Hid (∀ W : World, Calls Tryd.prog 20 #[.int .i64 Sa, .int .i64 pa, .int .i64 pb] W fun e w' => e = .returned (.bool bt) ∧ W = w') := fun W => better_any Sa pa pb W bt (by
        rcases tA with h | h
        · exact .inl ⟨h, by rw [← hbt, if_pos h]⟩
        · exact .inr ⟨h, by rw [← hbt, if_neg (by omega)]⟩)
      clear hbt
      cases bt with
      | true =>
        by_cases hr : ra < rb
        · rw [less_L hr] at EL
          exact orders_C2L ia ca ra xa da pa za la sa ib cb rb xb db pb zb lb sb Sa eA eB m hm _ _ _ _ BT hr PA PB EA EB PS PL EL
        · by_cases hr2 : ra = rb
          · subst hr2
            rw [less_Q] at EL
            exact orders_C2E ia ca ra xa da pa za la sa ib cb xb db pb zb lb sb Sa eA eB m hm _ _ _ _ BT _ rfl PA PB EA EB PS PL EL
          · rw [less_G hr hr2] at EL
            exact orders_C2G ia ca ra xa da pa za la sa ib cb rb xb db pb zb lb sb Sa eA eB m hm _ _ _ _ BT hr (by simp; omega) PA PB EA EB PS PL EL
      | false =>
        by_cases hr : ra < rb
        · rw [less_L hr] at EL
          exact orders_C3L ia ca ra xa da pa za la sa ib cb rb xb db pb zb lb sb Sa eA eB m hm _ _ _ _ BT (by simpa using hp) hr PA PB EA EB PS PL EL
        · by_cases hr2 : ra = rb
          · subst hr2
            rw [less_Q] at EL
            exact orders_C3E ia ca ra xa da pa za la sa ib cb xb db pb zb lb sb Sa eA eB m hm _ _ _ _ BT (by simpa using hp) _ rfl PA PB EA EB PS PL EL
          · rw [less_G hr hr2] at EL
            exact orders_C3G ia ca ra xa da pa za la sa ib cb rb xb db pb zb lb sb Sa eA eB m hm _ _ _ _ BT (by simpa using hp) hr (by simp; omega) PA PB EA EB PS PL EL
  · rw [less_B_side _ _ _ _ _ _ _ _ hs] at PL
    by_cases hr : ra < rb
    · rw [less_L hr] at EL
      exact orders_C1L ia ca ra xa da pa za la sa ib cb rb xb db pb zb lb sb Sa Sb eA eB m hm _ _ _ _ _ (by simpa using hs) rfl hr PA PB EA EB PS PL EL
    · by_cases hr2 : ra = rb
      · subst hr2
        rw [less_Q] at EL
        exact orders_C1E ia ca ra xa da pa za la sa ib cb xb db pb zb lb sb Sa Sb eA eB m hm _ _ _ _ _ (by simpa using hs) rfl _ rfl PA PB EA EB PS PL EL
      · rw [less_G hr hr2] at EL
        exact orders_C1G ia ca ra xa da pa za la sa ib cb rb xb db pb zb lb sb Sa Sb eA eB m hm _ _ _ _ _ (by simpa using hs) rfl hr (by simp; omega) PA PB EA EB PS PL EL
end Go.Proofs.YtelbhegkaihjhaaDoor
