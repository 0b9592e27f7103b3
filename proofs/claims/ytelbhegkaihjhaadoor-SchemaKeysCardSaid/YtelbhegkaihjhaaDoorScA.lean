/-
  The Go text of a market's keys, walked: parts of things. Conditions: as each theorem states.
-/
import Derived.Test.YtelbhegkaihjhaaDoorScEq
namespace Go.Proofs.YtelbhegkaihjhaaDoor
open Go.RowKit
open Vi

theorem one_list (c : UInt8) : (⟨#[c]⟩ : ByteArray).toList = [c] := by rw [Lib.toList_data]
theorem text_not {s : ByteArray} {c : UInt8} (h : ¬ s = ⟨#[c]⟩) : (s.toList == [c]) = false := by
  have := (Lib.bytes_beq_false_iff s ⟨#[c]⟩).2 h
  rwa [one_list] at this
theorem shape_any (s : ByteArray) (w : World) : Calls Tryd.prog 24 #[.string s] w fun e w' => e = .returned (.string (bs (formK s))) ∧ w = w' := by
  by_cases c1 : s = ⟨#[97]⟩
  · rw [show formK s = [97, 107] by rw [c1]; exact formK_a]; subst c1
    go_enter Tryd.func24, Tryd.ntmps24
    go_wp2
    go_ret
    exact ⟨rfl, rfl⟩
  by_cases c2 : s = ⟨#[111]⟩
  · rw [show formK s = [105] by rw [c2]; exact formK_o]; subst c2
    go_enter Tryd.func24, Tryd.ntmps24
    go_wp2
    go_ret
    exact ⟨rfl, rfl⟩
  by_cases c3 : s = ⟨#[98]⟩
  · rw [show formK s = [107, 112, 114, 105] by rw [c3]; exact formK_b]; subst c3
    go_enter Tryd.func24, Tryd.ntmps24
    go_wp2
    go_ret
    exact ⟨rfl, rfl⟩
  by_cases c4 : s = ⟨#[101]⟩
  · rw [show formK s = [116, 105] by rw [c4]; exact formK_e]; subst c4
    go_enter Tryd.func24, Tryd.ntmps24
    go_wp2
    go_ret
    exact ⟨rfl, rfl⟩
  by_cases c5 : s = ⟨#[110]⟩
  · rw [show formK s = [110] by rw [c5]; exact formK_n]; subst c5
    go_enter Tryd.func24, Tryd.ntmps24
    go_wp2
    go_ret
    exact ⟨rfl, rfl⟩
  rw [formK_none c1 c2 c3 c4 c5]
  have d1 := text_not c1
  have d2 := text_not c2
  have d3 := text_not c3
  have d4 := text_not c4
  have d5 := text_not c5
  clear c1 c2 c3 c4 c5
  go_enter Tryd.func24, Tryd.ntmps24
  go_wp2
  go_ret
  exact ⟨rfl, rfl⟩
/-- a thing as a value -/
def Th.val (t : Th) : Value := .agg #[.string t.sort, .int .u64 t.acct, .int .u64 t.id, .int .i64 t.kind, .int .i64 t.price, .int .u64 t.rank, .int .u64 t.time, .string t.name]
def KPart.agg (p : KPart) : Value := .agg #[.int .u8 p.sort, .int .i64 p.n, .int .u64 p.u, .string p.s]
theorem heap_second (w : World) (o1 o2 : Obj) : ((w.alloc o1).alloc o2).heap[w.heap.size + 1]? = some o2 := by
  have hn := heap_alloc_new (w.alloc o1) o2
  have hA : (w.alloc o1).heap.size = w.heap.size + 1 := by simp
  rwa [hA] at hn
/-- a call behind two new blocks: the second one is as it was -/
theorem second_kept {w w1 : World} {o1 o2 : Obj} (hb : Below ((w.alloc o1).alloc o2).heap.size ((w.alloc o1).alloc o2) w1) : w1.heap[w.heap.size + 1]? = some o2 :=
  (hb.block (w.heap.size + 1) (by simp)).trans (heap_second w o1 o2)
theorem second_below {w w1 : World} {o1 o2 : Obj} (hb : Below ((w.alloc o1).alloc o2).heap.size ((w.alloc o1).alloc o2) w1) : Below w.heap.size w w1 :=
  (((Below.refl _ _).alloc (Nat.le_refl _) o1).alloc (by simp) o2).trans (hb.mono (by simp; omega))
theorem four_below {w w1 : World} (h : Below w.heap.size w w1) {g : Nat} (hg : w.heap.size ≤ g) (v0 v1 v2 v3 : Value) : Below w.heap.size w ((((w1.setCell ⟨g, 0, none⟩ v0).setCell ⟨g, 1, none⟩ v1).setCell ⟨g, 2, none⟩ v2).setCell ⟨g, 3, none⟩ v3) :=
  (((h.setCell hg v0).setCell hg v1).setCell hg v2).setCell hg v3
theorem four_set {w1 : World} {g : Nat} {c : Array Value} {t : TypeId} (h : w1.heap[g]? = some (.cells c t (0, 0))) (hc : c.size = 4) (v0 v1 v2 v3 : Value) :
    ((((w1.setCell ⟨g, 0, none⟩ v0).setCell ⟨g, 1, none⟩ v1).setCell ⟨g, 2, none⟩ v2).setCell ⟨g, 3, none⟩ v3).heap[g]? = some (.cells #[v0, v1, v2, v3] t (0, 0)) := by
  have := heap_set (heap_set (heap_set (heap_set h 0 v0) 1 v1) 2 v2) 3 v3
  match c, hc with
  | ⟨[x0, x1, x2, x3]⟩, _ => exact this
theorem zpart : (⟨[.int .u8 0, .int .i64 0, .int .u64 0, .string ⟨#[]⟩]⟩ : Array Value).size = 4 := rfl
theorem price_buy (s : ByteArray) (a i : Nat) (p : Int) (r t : Nat) (n : ByteArray) (w : World) :
    Calls Tryd.prog 40 #[.agg #[.string s, .int .u64 a, .int .u64 i, .int .i64 1, .int .i64 p, .int .u64 r, .int .u64 t, .string n]] w fun e w' => e = .returned (.agg #[.int .u8 100, .int .i64 p, .int .u64 0, .string ⟨#[]⟩]) ∧ Below w.heap.size w w' := by
  go_enter Tryd.func40, Tryd.ntmps40
  go_wp2_with (go_at_call 51; (with_reducible refine (down_any _ _).mono ?_); rintro e w1 ⟨rfl, hb⟩; have hB := second_kept hb; have c0 := cell_in hB 0 _ rfl; have c1 := cell_in hB 1 _ rfl; have c2 := cell_in hB 2 _ rfl; have c3 := cell_in hB 3 _ rfl; have f0 := free_in hB 0; have f1 := free_in hB 1; have f2 := free_in hB 2; have f3 := free_in hB 3; have HB := Lib.hid hB; clear hB; have Hb := Lib.hid hb; clear hb)
  have r0 := four_set HB.out rfl (.int .u8 100) (.int .i64 p) (.int .u64 0) (.string ⟨#[]⟩)
  have k0 := cell_in r0 0 _ rfl
  have k1 := cell_in r0 1 _ rfl
  have k2 := cell_in r0 2 _ rfl
  have k3 := cell_in r0 3 _ rfl
  exact bodyPost_ret (v := .agg #[.int .u8 100, .int .i64 p, .int .u64 0, .string ⟨#[]⟩]) (by simp [results, Tryd.results40, go_sem, k0, k1, k2, k3]) rfl ⟨rfl, four_below (second_below Hb.out) (by omega) _ _ _ _⟩
theorem price_sell (s : ByteArray) (a i : Nat) (k p : Int) (r t : Nat) (n : ByteArray) (w : World) (hk : (k == 1) = false) :
    Calls Tryd.prog 40 #[.agg #[.string s, .int .u64 a, .int .u64 i, .int .i64 k, .int .i64 p, .int .u64 r, .int .u64 t, .string n]] w fun e w' => e = .returned (.agg #[.int .u8 105, .int .i64 p, .int .u64 0, .string ⟨#[]⟩]) ∧ Below w.heap.size w w' := by
  go_enter Tryd.func40, Tryd.ntmps40
  go_wp2_with (go_at_call 39; (with_reducible refine (up_any _ _).mono ?_); rintro e w1 ⟨rfl, hb⟩; have hB := second_kept hb; have c0 := cell_in hB 0 _ rfl; have c1 := cell_in hB 1 _ rfl; have c2 := cell_in hB 2 _ rfl; have c3 := cell_in hB 3 _ rfl; have f0 := free_in hB 0; have f1 := free_in hB 1; have f2 := free_in hB 2; have f3 := free_in hB 3; have HB := Lib.hid hB; clear hB; have Hb := Lib.hid hb; clear hb)
  have r0 := four_set HB.out rfl (.int .u8 105) (.int .i64 p) (.int .u64 0) (.string ⟨#[]⟩)
  have k0 := cell_in r0 0 _ rfl
  have k1 := cell_in r0 1 _ rfl
  have k2 := cell_in r0 2 _ rfl
  have k3 := cell_in r0 3 _ rfl
  exact bodyPost_ret (v := .agg #[.int .u8 105, .int .i64 p, .int .u64 0, .string ⟨#[]⟩]) (by simp [results, Tryd.results40, go_sem, k0, k1, k2, k3]) rfl ⟨rfl, four_below (second_below Hb.out) (by omega) _ _ _ _⟩
theorem price_any (x : Th) (w : World) : Calls Tryd.prog 40 #[x.val] w fun e w' => e = .returned (if x.kind = 1 then kDown x.price else kUp x.price).agg ∧ Below w.heap.size w w' := by
  obtain ⟨s, a, i, k, p, r, t, n⟩ := x
  by_cases h : k = 1
  · subst h; rw [if_pos rfl]; exact price_buy s a i p r t n w
  · rw [if_neg h]; exact price_sell s a i k p r t n w (by simpa using h)
theorem part_a (s : ByteArray) (a i : Nat) (k p : Int) (r t : Nat) (n : ByteArray) (w : World) :
    Calls Tryd.prog 26 #[.agg #[.string s, .int .u64 a, .int .u64 i, .int .i64 k, .int .i64 p, .int .u64 r, .int .u64 t, .string n], .int .i32 97] w fun e w' => e = .returned (.agg #[.int .u8 117, .int .i64 0, .int .u64 a, .string ⟨#[]⟩]) ∧ Below w.heap.size w w' := by
  go_enter Tryd.func26, Tryd.ntmps26
  go_wp2_with (go_at_call 38; (with_reducible refine (count_any _ _).mono ?_); rintro e w1 ⟨rfl, hb⟩; have hB := second_kept hb; have c0 := cell_in hB 0 _ rfl; have c1 := cell_in hB 1 _ rfl; have c2 := cell_in hB 2 _ rfl; have c3 := cell_in hB 3 _ rfl; have f0 := free_in hB 0; have f1 := free_in hB 1; have f2 := free_in hB 2; have f3 := free_in hB 3; have HB := Lib.hid hB; clear hB; have Hb := Lib.hid hb; clear hb)
  have r0 := four_set HB.out rfl (.int .u8 117) (.int .i64 0) (.int .u64 a) (.string ⟨#[]⟩)
  have k0 := cell_in r0 0 _ rfl
  have k1 := cell_in r0 1 _ rfl
  have k2 := cell_in r0 2 _ rfl
  have k3 := cell_in r0 3 _ rfl
  exact bodyPost_ret (v := .agg #[.int .u8 117, .int .i64 0, .int .u64 a, .string ⟨#[]⟩]) (by simp [results, Tryd.results26, go_sem, k0, k1, k2, k3]) rfl ⟨rfl, four_below (second_below Hb.out) (by omega) _ _ _ _⟩
theorem part_k (s : ByteArray) (a i : Nat) (k p : Int) (r t : Nat) (n : ByteArray) (w : World) :
    Calls Tryd.prog 26 #[.agg #[.string s, .int .u64 a, .int .u64 i, .int .i64 k, .int .i64 p, .int .u64 r, .int .u64 t, .string n], .int .i32 107] w fun e w' => e = .returned (.agg #[.int .u8 105, .int .i64 k, .int .u64 0, .string ⟨#[]⟩]) ∧ Below w.heap.size w w' := by
  go_enter Tryd.func26, Tryd.ntmps26
  go_wp2_with (go_at_call 39; (with_reducible refine (up_any _ _).mono ?_); rintro e w1 ⟨rfl, hb⟩; have hB := second_kept hb; have c0 := cell_in hB 0 _ rfl; have c1 := cell_in hB 1 _ rfl; have c2 := cell_in hB 2 _ rfl; have c3 := cell_in hB 3 _ rfl; have f0 := free_in hB 0; have f1 := free_in hB 1; have f2 := free_in hB 2; have f3 := free_in hB 3; have HB := Lib.hid hB; clear hB; have Hb := Lib.hid hb; clear hb)
  have r0 := four_set HB.out rfl (.int .u8 105) (.int .i64 k) (.int .u64 0) (.string ⟨#[]⟩)
  have k0 := cell_in r0 0 _ rfl
  have k1 := cell_in r0 1 _ rfl
  have k2 := cell_in r0 2 _ rfl
  have k3 := cell_in r0 3 _ rfl
  exact bodyPost_ret (v := .agg #[.int .u8 105, .int .i64 k, .int .u64 0, .string ⟨#[]⟩]) (by simp [results, Tryd.results26, go_sem, k0, k1, k2, k3]) rfl ⟨rfl, four_below (second_below Hb.out) (by omega) _ _ _ _⟩
theorem part_r (s : ByteArray) (a i : Nat) (k p : Int) (r t : Nat) (n : ByteArray) (w : World) :
    Calls Tryd.prog 26 #[.agg #[.string s, .int .u64 a, .int .u64 i, .int .i64 k, .int .i64 p, .int .u64 r, .int .u64 t, .string n], .int .i32 114] w fun e w' => e = .returned (.agg #[.int .u8 117, .int .i64 0, .int .u64 r, .string ⟨#[]⟩]) ∧ Below w.heap.size w w' := by
  go_enter Tryd.func26, Tryd.ntmps26
  go_wp2_with (go_at_call 38; (with_reducible refine (count_any _ _).mono ?_); rintro e w1 ⟨rfl, hb⟩; have hB := second_kept hb; have c0 := cell_in hB 0 _ rfl; have c1 := cell_in hB 1 _ rfl; have c2 := cell_in hB 2 _ rfl; have c3 := cell_in hB 3 _ rfl; have f0 := free_in hB 0; have f1 := free_in hB 1; have f2 := free_in hB 2; have f3 := free_in hB 3; have HB := Lib.hid hB; clear hB; have Hb := Lib.hid hb; clear hb)
  have r0 := four_set HB.out rfl (.int .u8 117) (.int .i64 0) (.int .u64 r) (.string ⟨#[]⟩)
  have k0 := cell_in r0 0 _ rfl
  have k1 := cell_in r0 1 _ rfl
  have k2 := cell_in r0 2 _ rfl
  have k3 := cell_in r0 3 _ rfl
  exact bodyPost_ret (v := .agg #[.int .u8 117, .int .i64 0, .int .u64 r, .string ⟨#[]⟩]) (by simp [results, Tryd.results26, go_sem, k0, k1, k2, k3]) rfl ⟨rfl, four_below (second_below Hb.out) (by omega) _ _ _ _⟩
theorem part_i (s : ByteArray) (a i : Nat) (k p : Int) (r t : Nat) (n : ByteArray) (w : World) :
    Calls Tryd.prog 26 #[.agg #[.string s, .int .u64 a, .int .u64 i, .int .i64 k, .int .i64 p, .int .u64 r, .int .u64 t, .string n], .int .i32 105] w fun e w' => e = .returned (.agg #[.int .u8 117, .int .i64 0, .int .u64 i, .string ⟨#[]⟩]) ∧ Below w.heap.size w w' := by
  go_enter Tryd.func26, Tryd.ntmps26
  go_wp2_with (go_at_call 38; (with_reducible refine (count_any _ _).mono ?_); rintro e w1 ⟨rfl, hb⟩; have hB := second_kept hb; have c0 := cell_in hB 0 _ rfl; have c1 := cell_in hB 1 _ rfl; have c2 := cell_in hB 2 _ rfl; have c3 := cell_in hB 3 _ rfl; have f0 := free_in hB 0; have f1 := free_in hB 1; have f2 := free_in hB 2; have f3 := free_in hB 3; have HB := Lib.hid hB; clear hB; have Hb := Lib.hid hb; clear hb)
  have r0 := four_set HB.out rfl (.int .u8 117) (.int .i64 0) (.int .u64 i) (.string ⟨#[]⟩)
  have k0 := cell_in r0 0 _ rfl
  have k1 := cell_in r0 1 _ rfl
  have k2 := cell_in r0 2 _ rfl
  have k3 := cell_in r0 3 _ rfl
  exact bodyPost_ret (v := .agg #[.int .u8 117, .int .i64 0, .int .u64 i, .string ⟨#[]⟩]) (by simp [results, Tryd.results26, go_sem, k0, k1, k2, k3]) rfl ⟨rfl, four_below (second_below Hb.out) (by omega) _ _ _ _⟩
theorem part_t (s : ByteArray) (a i : Nat) (k p : Int) (r t : Nat) (n : ByteArray) (w : World) :
    Calls Tryd.prog 26 #[.agg #[.string s, .int .u64 a, .int .u64 i, .int .i64 k, .int .i64 p, .int .u64 r, .int .u64 t, .string n], .int .i32 116] w fun e w' => e = .returned (.agg #[.int .u8 117, .int .i64 0, .int .u64 t, .string ⟨#[]⟩]) ∧ Below w.heap.size w w' := by
  go_enter Tryd.func26, Tryd.ntmps26
  go_wp2_with (go_at_call 38; (with_reducible refine (count_any _ _).mono ?_); rintro e w1 ⟨rfl, hb⟩; have hB := second_kept hb; have c0 := cell_in hB 0 _ rfl; have c1 := cell_in hB 1 _ rfl; have c2 := cell_in hB 2 _ rfl; have c3 := cell_in hB 3 _ rfl; have f0 := free_in hB 0; have f1 := free_in hB 1; have f2 := free_in hB 2; have f3 := free_in hB 3; have HB := Lib.hid hB; clear hB; have Hb := Lib.hid hb; clear hb)
  have r0 := four_set HB.out rfl (.int .u8 117) (.int .i64 0) (.int .u64 t) (.string ⟨#[]⟩)
  have k0 := cell_in r0 0 _ rfl
  have k1 := cell_in r0 1 _ rfl
  have k2 := cell_in r0 2 _ rfl
  have k3 := cell_in r0 3 _ rfl
  exact bodyPost_ret (v := .agg #[.int .u8 117, .int .i64 0, .int .u64 t, .string ⟨#[]⟩]) (by simp [results, Tryd.results26, go_sem, k0, k1, k2, k3]) rfl ⟨rfl, four_below (second_below Hb.out) (by omega) _ _ _ _⟩
theorem part_p_buy (s : ByteArray) (a i : Nat) (p : Int) (r t : Nat) (n : ByteArray) (w : World) :
    Calls Tryd.prog 26 #[.agg #[.string s, .int .u64 a, .int .u64 i, .int .i64 1, .int .i64 p, .int .u64 r, .int .u64 t, .string n], .int .i32 112] w fun e w' => e = .returned (.agg #[.int .u8 100, .int .i64 p, .int .u64 0, .string ⟨#[]⟩]) ∧ Below w.heap.size w w' := by
  go_enter Tryd.func26, Tryd.ntmps26
  go_wp2_with (go_at_call 40; (with_reducible refine (price_buy _ _ _ _ _ _ _ _).mono ?_); rintro e w1 ⟨rfl, hb⟩; have hB := second_kept hb; have c0 := cell_in hB 0 _ rfl; have c1 := cell_in hB 1 _ rfl; have c2 := cell_in hB 2 _ rfl; have c3 := cell_in hB 3 _ rfl; have f0 := free_in hB 0; have f1 := free_in hB 1; have f2 := free_in hB 2; have f3 := free_in hB 3; have HB := Lib.hid hB; clear hB; have Hb := Lib.hid hb; clear hb)
  have r0 := four_set HB.out rfl (.int .u8 100) (.int .i64 p) (.int .u64 0) (.string ⟨#[]⟩)
  have k0 := cell_in r0 0 _ rfl
  have k1 := cell_in r0 1 _ rfl
  have k2 := cell_in r0 2 _ rfl
  have k3 := cell_in r0 3 _ rfl
  exact bodyPost_ret (v := .agg #[.int .u8 100, .int .i64 p, .int .u64 0, .string ⟨#[]⟩]) (by simp [results, Tryd.results26, go_sem, k0, k1, k2, k3]) rfl ⟨rfl, four_below (second_below Hb.out) (by omega) _ _ _ _⟩
theorem part_p_sell (s : ByteArray) (a i : Nat) (k p : Int) (r t : Nat) (n : ByteArray) (w : World) (hk : (k == 1) = false) :
    Calls Tryd.prog 26 #[.agg #[.string s, .int .u64 a, .int .u64 i, .int .i64 k, .int .i64 p, .int .u64 r, .int .u64 t, .string n], .int .i32 112] w fun e w' => e = .returned (.agg #[.int .u8 105, .int .i64 p, .int .u64 0, .string ⟨#[]⟩]) ∧ Below w.heap.size w w' := by
  go_enter Tryd.func26, Tryd.ntmps26
  go_wp2_with (go_at_call 40; (with_reducible refine (price_sell _ _ _ _ _ _ _ _ _ hk).mono ?_); rintro e w1 ⟨rfl, hb⟩; have hB := second_kept hb; have c0 := cell_in hB 0 _ rfl; have c1 := cell_in hB 1 _ rfl; have c2 := cell_in hB 2 _ rfl; have c3 := cell_in hB 3 _ rfl; have f0 := free_in hB 0; have f1 := free_in hB 1; have f2 := free_in hB 2; have f3 := free_in hB 3; have HB := Lib.hid hB; clear hB; have Hb := Lib.hid hb; clear hb)
  have r0 := four_set HB.out rfl (.int .u8 105) (.int .i64 p) (.int .u64 0) (.string ⟨#[]⟩)
  have k0 := cell_in r0 0 _ rfl
  have k1 := cell_in r0 1 _ rfl
  have k2 := cell_in r0 2 _ rfl
  have k3 := cell_in r0 3 _ rfl
  exact bodyPost_ret (v := .agg #[.int .u8 105, .int .i64 p, .int .u64 0, .string ⟨#[]⟩]) (by simp [results, Tryd.results26, go_sem, k0, k1, k2, k3]) rfl ⟨rfl, four_below (second_below Hb.out) (by omega) _ _ _ _⟩
theorem part_n (s : ByteArray) (a i : Nat) (k p : Int) (r t : Nat) (n : ByteArray) (w : World) (hn : Hid (n.size ≤ 281474976710656)) :
    Calls Tryd.prog 26 #[.agg #[.string s, .int .u64 a, .int .u64 i, .int .i64 k, .int .i64 p, .int .u64 r, .int .u64 t, .string n], .int .i32 110] w fun e w' => e = .returned (.agg #[.int .u8 116, .int .i64 0, .int .u64 0, .string n]) ∧ Below w.heap.size w w' := by
  go_enter Tryd.func26, Tryd.ntmps26
  go_wp2_with (go_at_call 29; (with_reducible refine (ktext_any _ hn.out _).mono ?_); rintro e w1 ⟨rfl, hb⟩; have hB := second_kept hb; have c0 := cell_in hB 0 _ rfl; have c1 := cell_in hB 1 _ rfl; have c2 := cell_in hB 2 _ rfl; have c3 := cell_in hB 3 _ rfl; have f0 := free_in hB 0; have f1 := free_in hB 1; have f2 := free_in hB 2; have f3 := free_in hB 3; have HB := Lib.hid hB; clear hB; have Hb := Lib.hid hb; clear hb)
  have r0 := four_set HB.out rfl (.int .u8 116) (.int .i64 0) (.int .u64 0) (.string n)
  have k0 := cell_in r0 0 _ rfl
  have k1 := cell_in r0 1 _ rfl
  have k2 := cell_in r0 2 _ rfl
  have k3 := cell_in r0 3 _ rfl
  exact bodyPost_ret (v := .agg #[.int .u8 116, .int .i64 0, .int .u64 0, .string n]) (by simp [results, Tryd.results26, go_sem, k0, k1, k2, k3]) rfl ⟨rfl, four_below (second_below Hb.out) (by omega) _ _ _ _⟩
/-- the letters that tell what a part is -/
def Letter (c : UInt8) : Prop := c = 97 ∨ c = 107 ∨ c = 112 ∨ c = 114 ∨ c = 105 ∨ c = 116 ∨ c = 110
theorem part_any (c : UInt8) (hc : Letter c) (x : Th) (hn : x.name.size ≤ 281474976710656) (w : World) :
    Calls Tryd.prog 26 #[x.val, .int .i32 (c.toNat : Int)] w fun e w' => e = .returned (partK c x).agg ∧ Below w.heap.size w w' := by
  obtain ⟨s, a, i, k, p, r, t, n⟩ := x
  rcases hc with rfl | rfl | rfl | rfl | rfl | rfl | rfl
  · rw [partK_a]; exact part_a s a i k p r t n w
  · rw [partK_k]; exact part_k s a i k p r t n w
  · rw [partK_p]
    by_cases h : k = 1
    · subst h; rw [if_pos rfl]; exact part_p_buy s a i p r t n w
    · rw [if_neg h]; exact part_p_sell s a i k p r t n w (by simpa using h)
  · rw [partK_r]; exact part_r s a i k p r t n w
  · rw [partK_i]; exact part_i s a i k p r t n w
  · rw [partK_t]; exact part_t s a i k p r t n w
  · rw [partK_n]; exact part_n s a i k p r t n w hn
end Go.Proofs.YtelbhegkaihjhaaDoor
