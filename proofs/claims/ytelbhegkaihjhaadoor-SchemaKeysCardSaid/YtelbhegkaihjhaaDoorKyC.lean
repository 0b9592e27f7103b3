/-
  The Go text of keys, walked: rows of parts as bytes, parts made. Conditions: as each theorem states.
-/
import Derived.Test.YtelbhegkaihjhaaDoorKyB
namespace Go.Proofs.YtelbhegkaihjhaaDoor
open Go.RowKit
open Vi

theorem pbytes_i {p : KPart} (h : p.sort = 105) : pbytes p = (105 :: big8 (lift p.n), 0) := if_pos h
theorem pbytes_d {p : KPart} (h : p.sort = 100) : pbytes p = (100 :: big8 (18446744073709551615 - lift p.n), 0) := by unfold pbytes; rw [if_neg (by omega), if_pos h]
theorem pbytes_u {p : KPart} (h : p.sort = 117) : pbytes p = (117 :: big8 p.u, 0) := by unfold pbytes; rw [if_neg (by omega), if_neg (by omega), if_pos h]
theorem pbytes_l {p : KPart} (h : p.sort = 116) (hs : 200 < p.s.size) : pbytes p = ([], 5) := by unfold pbytes; rw [if_neg (by omega), if_neg (by omega), if_neg (by omega), if_pos h, if_pos hs]
theorem pbytes_t {p : KPart} (h : p.sort = 116) (hs : ¬ 200 < p.s.size) : pbytes p = (116 :: (esc p.s.data.toList ++ [0, 0]), 0) := by unfold pbytes; rw [if_neg (by omega), if_neg (by omega), if_neg (by omega), if_pos h, if_neg hs]
theorem pbytes_n {p : KPart} (h1 : ¬ p.sort = 105) (h2 : ¬ p.sort = 100) (h3 : ¬ p.sort = 117) (h4 : ¬ p.sort = 116) : pbytes p = ([], 11) := by unfold pbytes; rw [if_neg h1, if_neg h2, if_neg h3, if_neg h4]
theorem pbytes_len (p : KPart) : (pbytes p).1.length ≤ 403 := by
  unfold pbytes
  split
  · simp [big8_len]
  · split
    · simp [big8_len]
    · split
      · simp [big8_len]
      · split
        · split
          · simp
          · have := esc_len p.s.data.toList
            rw [size_len] at this; simp; omega
        · simp
theorem bytes_any {w : World} (p : KPart) (hp : p.ok) (hs : p.s.size ≤ 9223372036854775807) (m : Int) (hm : w.cell? ⟨0, 0, none⟩ = some (.int .i64 m)) :
    Calls Tryd.prog 43 #[.agg #[.int .u8 p.sort, .int .i64 p.n, .int .u64 p.u, .string p.s]] w fun e w' => e = .returned (.tuple #[.string (bs (pbytes p).1), .int .i64 (pbytes p).2]) ∧ Below w.heap.size w w' := by
  obtain ⟨h0, h1, h2, h3⟩ := hp
  by_cases c1 : p.sort = 105
  · rw [pbytes_i c1, c1]; exact bytes_i p.n p.u p.s h1 h2 h3
  · by_cases c2 : p.sort = 100
    · rw [pbytes_d c2, c2]; exact bytes_d p.n p.u p.s h1 h2 h3
    · by_cases c3 : p.sort = 117
      · rw [pbytes_u c3, c3]; exact bytes_u p.n p.u p.s h1 h2 h3
      · by_cases c4 : p.sort = 116
        · by_cases c5 : 200 < p.s.size
          · rw [pbytes_l c4 c5, c4]; exact bytes_long p.n p.u p.s c5 hs
          · rw [pbytes_t c4 c5, c4]; exact bytes_t p.n p.u p.s (by omega) m hm
        · rw [pbytes_n c1 c2 c3 c4]
          exact bytes_none p.sort p.n p.u p.s (by simp; omega) (by simp; omega) (by simp; omega) (by simp; omega)
attribute [local irreducible] pbytes

/-! a row of parts in memory -/
def PCells (w : World) (x : Addr) (p : KPart) : Prop :=
  w.cell? x = some (.int .u8 p.sort) ∧ w.cell? ⟨x.block, x.off + 1, none⟩ = some (.int .i64 p.n) ∧ w.cell? ⟨x.block, x.off + 2, none⟩ = some (.int .u64 p.u) ∧ w.cell? ⟨x.block, x.off + 3, none⟩ = some (.string p.s)
def PRow (w : World) (A : Option Addr) (l : List KPart) : Prop :=
  0 < l.length → ∃ a, A = some a ∧ a.block < w.heap.size ∧ ∀ i (h : i < l.length), PCells w (a.add (i * 4)) l[i]
theorem block_add (a : Addr) (n : Nat) : (a.add n).block = a.block := by unfold Addr.add; split <;> rfl
theorem PCells.keep {w w' : World} {x : Addr} {p : KPart} (h : PCells w x p) (hk : ∀ q : Addr, q.block = x.block → w'.cell? q = w.cell? q) : PCells w' x p :=
  ⟨(hk x rfl).trans h.1, (hk ⟨x.block, x.off + 1, none⟩ rfl).trans h.2.1, (hk ⟨x.block, x.off + 2, none⟩ rfl).trans h.2.2.1, (hk ⟨x.block, x.off + 3, none⟩ rfl).trans h.2.2.2⟩
theorem PRow.below {B : Nat} {w w' : World} {A : Option Addr} {l : List KPart} (h : PRow w A l) (hb : Below B w w') (hB : w.heap.size ≤ B) : PRow w' A l := fun h0 => by
  obtain ⟨a, e, hlt, hc⟩ := h h0
  exact ⟨a, e, Nat.lt_of_lt_of_le hlt hb.size, fun i hi => (hc i hi).keep fun q hq => hb.cell (by rw [hq, block_add]; omega)⟩
theorem cell_lt {w : World} {p : Addr} {v : Value} (h : w.cell? p = some v) : p.block < w.heap.size := by
  rcases Nat.lt_or_ge p.block w.heap.size with h' | h'
  · exact h'
  · unfold World.cell? at h
    rw [Array.getElem?_eq_none h'] at h
    simp at h
def mkGo (k : List UInt8) : List KPart → List UInt8 × Int
  | [] => (k, 0)
  | p :: l => if (pbytes p).2 = 0 then (if 200 < k.length + (pbytes p).1.length then ([], 5) else mkGo (k ++ (pbytes p).1) l) else ([], (pbytes p).2)
theorem mkGo_bad {k : List UInt8} {p : KPart} {l : List KPart} (h : ¬ (pbytes p).2 = 0) : mkGo k (p :: l) = ([], (pbytes p).2) := by rw [mkGo, if_neg h]
theorem mkGo_long {k : List UInt8} {p : KPart} {l : List KPart} (h : (pbytes p).2 = 0) (h2 : 200 < k.length + (pbytes p).1.length) : mkGo k (p :: l) = ([], 5) := by rw [mkGo, if_pos h, if_pos h2]
theorem mkGo_on {k : List UInt8} {p : KPart} {l : List KPart} (h : (pbytes p).2 = 0) (h2 : ¬ 200 < k.length + (pbytes p).1.length) : mkGo k (p :: l) = mkGo (k ++ (pbytes p).1) l := by rw [mkGo, if_pos h, if_neg h2]
def MkJ (w : World) (l : List KPart) (x i : Value) (wr : World) : Prop :=
  ∃ (j : Nat) (k : List UInt8), j ≤ l.length ∧ k.length ≤ 200 ∧ mkGo k (l.drop j) = mkGo [] l ∧ x = .string (bs k) ∧ i = .int .i64 j ∧ Below w.heap.size w wr
theorem cell0_below {w w' : World} {v : Value} (h : w.cell? ⟨0, 0, none⟩ = some v) (hb : Below w.heap.size w w') : w'.cell? ⟨0, 0, none⟩ = some v := by
  rw [hb.cell (p := ⟨0, 0, none⟩) (cell_lt h)]; exact h
theorem ret_pair {a b : List UInt8} {x y : Int} (h : (a, x) = (b, y)) : Ending.returned (.tuple #[.string (bs a), .int .i64 x]) = .returned (.tuple #[.string (bs b), .int .i64 y]) := by
  injection h with h1 h2; rw [h1, h2]
theorem below_step {B : Nat} {w wr w1 : World} {o : Obj} (hb : Below B w wr) (h : B ≤ wr.heap.size) (hb1 : Below (wr.alloc o).heap.size (wr.alloc o) w1) : Below B w w1 :=
  (hb.alloc h o).trans (hb1.mono (by simp; omega))
set_option maxRecDepth 100000 in
set_option maxHeartbeats 2000000 in
theorem make_any {w : World} (A : Option Addr) (c : Nat) (l : List KPart) (hl : l.length ≤ 1000) (hr : PRow w A l) (hok : ∀ p ∈ l, p.ok ∧ p.s.size ≤ 9223372036854775807) (m : Int) (hm : w.cell? ⟨0, 0, none⟩ = some (.int .i64 m)) :
    Calls Tryd.prog 28 #[.slice A l.length c] w fun e w' => e = .returned (.tuple #[.string (bs (mkGo [] l).1), .int .i64 (mkGo [] l).2]) ∧ Below w.heap.size w w' := by
  have HR := Lib.hid hr
  have HM := Lib.hid hm
  have HO := Lib.hid hok
  clear hr hm hok
  go_enter Tryd.func28, Tryd.ntmps28
  go_wp2
  go_loopw [4, 11] (MkJ w l) (fun _ i _ => l.length - (intOf i).toNat)
  case atStart => exact ⟨0, [], by omega, by simp, rfl, rfl, rfl, Below.refl _ _⟩
  case round =>
    obtain ⟨j, k, hj, hk, hg, rfl, rfl, hb⟩ := hrel
    have HG := Lib.hid hg
    clear hg
    have hbz := bs_size
    have hba := bs_append
    by_cases hlt : j < l.length
    · obtain ⟨a, rfl, hab, hc⟩ := HR.out (by omega)
      obtain ⟨x0, x1, x2, x3⟩ := (hc j hlt).keep (w' := wr) fun q hq => hb.cell (by rw [hq, block_add]; exact hab)
      have hd : l.drop j = l[j] :: l.drop (j + 1) := List.drop_eq_getElem_cons hlt
      obtain ⟨hpo, hps⟩ := HO.out l[j] (List.getElem_mem hlt)
      have HP := Lib.hid hpo
      have hpl := pbytes_len l[j]
      have HD := Lib.hid hd
      clear hc hd hpo
      have hm2 := Lib.hid (cell_alloc0 (cell0_below HM.out hb) (.cells #[.int .u8 l[j].sort, .int .i64 l[j].n, .int .u64 l[j].u, .string l[j].s] 49))
      by_cases he : (pbytes l[j]).2 = 0
      · have he1 : ((pbytes l[j]).2 == 0) = true := by simpa using he
        have he2 : ((pbytes l[j]).2 != 0) = false := by simpa using he
        have HE := Lib.hid he
        clear he
        by_cases h2 : 200 < k.length + (pbytes l[j]).1.length
        · go_wp2_with (go_at_call 43; refine (bytes_any l[j] HP.out hps m hm2.out).mono ?_; rintro e w1 ⟨rfl, hb1⟩)
          go_ret2
          exact ⟨ret_pair (by rw [← HG.out, HD.out, mkGo_long HE.out h2]), below_step hb hb.size hb1⟩
        · go_wp2_with (go_at_call 43; refine (bytes_any l[j] HP.out hps m hm2.out).mono ?_; rintro e w1 ⟨rfl, hb1⟩)
          go_roundw
          case rel => exact ⟨j + 1, k ++ (pbytes l[j]).1, by omega, by rw [List.length_append]; omega, by rw [← HG.out, HD.out, mkGo_on HE.out h2], rfl, by go_num, below_step hb hb.size hb1⟩
          case measure => simp [intOf]; omega
      · have he1 : ((pbytes l[j]).2 == 0) = false := by simpa using he
        have he2 : ((pbytes l[j]).2 != 0) = true := by simpa using he
        go_wp2_with (go_at_call 43; refine (bytes_any l[j] HP.out hps m hm2.out).mono ?_; rintro e w1 ⟨rfl, hb1⟩)
        go_ret2
        exact ⟨ret_pair (by rw [← HG.out, HD.out, mkGo_bad he]), below_step hb hb.size hb1⟩
    · go_wp2
      go_ret2
      exact ⟨ret_pair (by rw [← HG.out, List.drop_of_length_le (by omega)]; rfl), hb⟩

/-! parts made -/
def kUp (n : Int) : KPart := ⟨105, n, 0, ⟨#[]⟩⟩
def kDown (n : Int) : KPart := ⟨100, n, 0, ⟨#[]⟩⟩
def kCount (u : Nat) : KPart := ⟨117, 0, u, ⟨#[]⟩⟩
def kText (s : ByteArray) : KPart := ⟨116, 0, 0, s⟩
theorem up_any (n : Int) (w : World) : Calls Tryd.prog 39 #[.int .i64 n] w fun e w' => e = .returned (.agg #[.int .u8 105, .int .i64 n, .int .u64 0, .string ⟨#[]⟩]) ∧ Below w.heap.size w w' := by
  go_enter Tryd.func39, Tryd.ntmps39
  go_wp2
  exact bodyPost_ret (v := .agg #[.int .u8 105, .int .i64 n, .int .u64 0, .string ⟨#[]⟩]) (by simp [results, Tryd.results39, go_sem]) rfl ⟨rfl, (Below.refl _ _).alloc (Nat.le_refl _) _⟩
theorem down_any (n : Int) (w : World) : Calls Tryd.prog 51 #[.int .i64 n] w fun e w' => e = .returned (.agg #[.int .u8 100, .int .i64 n, .int .u64 0, .string ⟨#[]⟩]) ∧ Below w.heap.size w w' := by
  go_enter Tryd.func51, Tryd.ntmps51
  go_wp2
  exact bodyPost_ret (v := .agg #[.int .u8 100, .int .i64 n, .int .u64 0, .string ⟨#[]⟩]) (by simp [results, Tryd.results51, go_sem]) rfl ⟨rfl, (Below.refl _ _).alloc (Nat.le_refl _) _⟩
theorem count_any (n : Nat) (w : World) : Calls Tryd.prog 38 #[.int .u64 n] w fun e w' => e = .returned (.agg #[.int .u8 117, .int .i64 0, .int .u64 n, .string ⟨#[]⟩]) ∧ Below w.heap.size w w' := by
  go_enter Tryd.func38, Tryd.ntmps38
  go_wp2
  exact bodyPost_ret (v := .agg #[.int .u8 117, .int .i64 0, .int .u64 n, .string ⟨#[]⟩]) (by simp [results, Tryd.results38, go_sem]) rfl ⟨rfl, (Below.refl _ _).alloc (Nat.le_refl _) _⟩
theorem after_none (p : ByteArray) (hp : p.size ≤ 1000000) (h : ∀ i (hi : i < p.size), p[i].toNat = 255) (w : World) :
    Calls Tryd.prog 30 #[.string p] w fun e w' => e = .returned (.tuple #[.string (bs []), .bool false]) ∧ Below w.heap.size w w' := by
  have HA := Lib.hid h
  clear h
  go_enter Tryd.func30, Tryd.ntmps30
  go_wp2
  go_loop [4] (fun i => ∃ j : Nat, j ≤ p.size ∧ i = .int .i64 j) (fun i => (intOf i).toNat)
  case atStart => exact ⟨p.size, Nat.le_refl _, rfl⟩
  case round =>
    obtain ⟨j, hj, rfl⟩ := hrel
    by_cases h0 : j = 0
    · subst h0
      go_wp2
      go_ret2
      exact ⟨rfl, Below.refl _ _⟩
    · obtain ⟨i, rfl⟩ : ∃ i, j = i + 1 := ⟨j - 1, by omega⟩
      have hi : i < p.size := by omega
      have h255 : ((p[i].toNat : Int) == 255) = true := by rw [HA.out i hi]; rfl
      go_wp2
      go_round
      case rel => exact ⟨i, by omega, rfl⟩
      case measure => simp [intOf]
end Go.Proofs.YtelbhegkaihjhaaDoor
