/-
  The Go text of a market's keys, walked: the bounds of keys that begin so. Conditions: as each theorem states.
-/
import Derived.Test.YtelbhegkaihjhaaDoorScL
import Derived.Maps.AppendAt
import Derived.Laws.AppendOwnNone
namespace Go.Proofs.YtelbhegkaihjhaaDoor
open Go.RowKit
open Vi

theorem u_all_255 {p : ByteArray} (h : ∀ i (hi : i < p.size), p[i].toNat = 255) : ∀ c ∈ p.data.toList, c.toNat = 255 := fun c hc => by
  obtain ⟨i, hi, rfl⟩ := List.getElem_of_mem hc
  exact h i hi
theorem u_split_at (p : ByteArray) (k : Nat) (hk : k < p.size) : p.data.toList = p.data.toList.take k ++ p[k] :: p.data.toList.drop (k + 1) := by
  rw [← drop_at p k hk, List.take_append_drop]
theorem u_rest_255 {p : ByteArray} {k : Nat} (h : ∀ i (hi : i < p.size), k < i → p[i].toNat = 255) : ∀ c ∈ p.data.toList.drop (k + 1), c.toNat = 255 := fun c hc => by
  obtain ⟨i, hi, rfl⟩ := List.getElem_of_mem hc
  rw [List.getElem_drop]
  exact h (k + 1 + i) (by rw [List.length_drop, size_len] at hi; omega) (by omega)
/-- behind a text that begins with a low byte there is another one, and between them lies just what begins so -/
theorem bounds_of (K : List UInt8) (hK : K.length ≤ 1000) (c : UInt8) (r : List UInt8) (hc : K = c :: r) (h255 : c.toNat < 255) :
    ∃ A : List UInt8, (∀ W : World, Calls Tryd.prog 30 #[.string (bs K)] W fun e w' => e = .returned (.tuple #[.string (bs A), .bool true]) ∧ Below W.heap.size W w') ∧ (A == []) = false ∧
      Op.bytesLess K A = true ∧ ∀ T : List UInt8, (!Op.bytesLess T K && Op.bytesLess T A) = Lib.hasPrefix T K := by
  have hz : (bs K).size ≤ 1000000 := by rw [bs_size]; omega
  rcases last_below (bs K) with h | ⟨k, hk, hc2, h⟩
  · exfalso
    have := u_all_255 h c (by show c ∈ K; rw [hc]; simp)
    omega
  · have hd : (UInt8.ofNat ((bs K)[k].toNat + 1)).toNat = (bs K)[k].toNat + 1 := toNat_of (by omega)
    have e := after_l2 (bs K)[k] _ hd _ (u_rest_255 h) ((bs K).data.toList.take k)
    rw [← u_split_at (bs K) k hk] at e
    refine ⟨(bs K).data.toList.take k ++ [UInt8.ofNat ((bs K)[k].toNat + 1)], fun W => after_some (bs K) hz k hk hc2 h W, by simp, ?_, e⟩
    have e4 := e K
    have e5 : K.isPrefixOf K = true := by have := pre_app K []; rwa [List.append_nil] at this
    have e6 : Op.bytesLess K K = false := bl_irrefl K
    have e7 : (!Op.bytesLess K K && Op.bytesLess K ((bs K).data.toList.take k ++ [UInt8.ofNat ((bs K)[k].toNat + 1)])) = K.isPrefixOf K := e4
    rw [e5, e6] at e7
    simpa using e7
theorem make_own {w : World} (v : Value) (B : Nat) (l : List KPart) (hl : l.length ≤ 1000) (ho : w.ownsRow B 49 4 v l.length (l.flatMap KPart.cells)) (hok : ∀ p ∈ l, p.ok ∧ p.s.size ≤ 9223372036854775807) (m : Int) (hm : Cell0 m w) :
    Calls Tryd.prog 28 #[v] w fun e w' => e = .returned (.tuple #[.string (bs (mkGo [] l).1), .int .i64 (mkGo [] l).2]) ∧ Below w.heap.size w w' := by
  obtain ⟨A, c, rfl, hp⟩ := prow_of_owns ho
  exact make_any A c l hl hp hok m hm
theorem add_add (a : Addr) (i r : Nat) : (a.add i).add r = a.add (i + r) := by
  unfold Addr.add
  by_cases hi : i = 0
  · by_cases hr : r = 0
    · simp [hi, hr]
    · simp [hi, hr]
  · by_cases hr : r = 0
    · simp [hi, hr]
    · simp [hi, hr, Nat.add_assoc]
theorem prow_news {w : World} {a : Addr} {l : List KPart} (hc : ∀ i (h : i < l.length), PCells w (a.add (i * 4)) l[i]) : ∀ j u, (l.flatMap KPart.cells)[j]? = some u → w.cell? (a.add j) = some u := fun j u hu => by
  have hj : j < (l.flatMap KPart.cells).length := (List.getElem?_eq_some_iff.1 hu).1
  have hlen : (l.flatMap KPart.cells).length = l.length * 4 := by
    clear hu hj hc
    induction l with
    | nil => rfl
    | cons p l ih => rw [List.flatMap_cons, List.length_append, ih]; simp [KPart.cells]; omega
  obtain ⟨i, r, hi, rfl⟩ : ∃ i r, r < 4 ∧ j = i * 4 + r := ⟨j / 4, j % 4, by omega, by omega⟩
  have hi2 : i < l.length := by omega
  rw [flat_at l i hi2 r hi] at hu
  obtain ⟨x0, x1, x2, x3⟩ := hc i hi2
  rw [← add_add]
  match r, hi, hu with
  | 0, _, hu => cases hu; exact x0
  | 1, _, hu => cases hu; exact x1
  | 2, _, hu => cases hu; exact x2
  | 3, _, hu => cases hu; exact x3
def UnP (w : World) (_l : List KPart) (F T : List UInt8) (e : Ending) (w' : World) : Prop := e = .returned (.tuple #[.string (bs F), .string (bs T)]) ∧ Below w.heap.size w w'
theorem flat_len : ∀ l : List KPart, (l.flatMap KPart.cells).length = l.length * 4
  | [] => rfl
  | p :: l => by rw [List.flatMap_cons, List.length_append, flat_len l]; simp [KPart.cells]; omega
theorem cells_all (l : List KPart) : ∀ u ∈ l.flatMap KPart.cells, u.oneCell' = true := by
  intro u hu
  obtain ⟨q, _, hq⟩ := List.mem_flatMap.1 hu
  exact cells_one q u hq
theorem own_rows {W : World} {B : Nat} {v : Value} {s : ByteArray} {l : List KPart} (h : W.ownsRow B 49 4 v (1 + l.length) ([kText s].flatMap KPart.cells ++ l.flatMap KPart.cells)) :
    W.ownsRow B 49 4 v (kText s :: l).length ((kText s :: l).flatMap KPart.cells) := by
  rw [Nat.add_comm] at h; exact h
structure OnRow (w : World) (a : Addr) (l : List KPart) : Prop where
  mk ::
  c : ∀ i (h : i < l.length), PCells w (a.add (i * 4)) l[i]
theorem OnRow.on {w w1 : World} {a : Addr} {l : List KPart} {o : Obj} (h : OnRow w a l) (hb : Below w.heap.size w w1) (ha : 0 < l.length → a.block < w.heap.size) : ∀ i (h : i < l.length), PCells (w1.alloc o) (a.add (i * 4)) l[i] :=
  fun i hi => (h.c i hi).keep fun q hq => (hb.alloc hb.size o).cell (by rw [hq, block_add]; exact ha (by omega))
set_option maxRecDepth 100000 in
set_option maxHeartbeats 4000000 in
theorem under_err {w : World} (s : ByteArray) (hs : s.size ≤ 1000) (l : List KPart) (hl : l.length ≤ 5) (a : Addr) (c : Nat) (hab : 0 < l.length → a.block < w.heap.size) (hc : ∀ i (h : i < l.length), PCells w (a.add (i * 4)) l[i]) (hok : ∀ p ∈ kText s :: l, p.ok ∧ p.s.size ≤ 9223372036854775807) (m : Int) (hm : Cell0 m w) (K : List UInt8) (E : Int) (hE : (E != 0) = true) (hmk : mkGo [] (kText s :: l) = (K, E)) :
    Calls Tryd.prog 17 #[.string s, .slice (some a) l.length c] w (UnP w l [] []) := by
  obtain ⟨i0, hi, hz0, hz1, hz2⟩ := info_parts infoPart
  have HI := Lib.hid (And.intro hi (And.intro hz0 (And.intro hz1 hz2)))
  clear hi hz0 hz1 hz2
  have MK := Lib.hid fun (W : World) (v : Value) (B : Nat) (h : W.ownsRow B 49 4 v (kText s :: l).length ((kText s :: l).flatMap KPart.cells)) (h2 : Cell0 m W) => make_own v B (kText s :: l) (by simp; omega) h hok m h2
  have HM := Lib.hid hm
  have TX := Lib.hid fun (W : World) => ktext_any s (by omega) W
  have NL := Lib.hid (show (l.flatMap KPart.cells).length = l.length * 4 from flat_len l)
  have hpc := Lib.hid (OnRow.mk (w := w) (a := a) (l := l) hc)
  rw [hmk] at MK
  clear hm hok hmk hs hc
  go_enter Tryd.func17, Tryd.ntmps17
  go_wp2_with (first
    | (go_at_call 29; (with_reducible refine (TX.out _).mono ?_); rintro e w1 ⟨rfl, b1⟩; have B1 := Lib.hid b1; have O1 := Lib.hid (own_one (B := w.heap.size) b1.size (kText s)); have hw1 := b1.size)
    | (at_builtin
       refine wpList_append_own_at _ rfl _ _ 44 rfl w.heap.size 49 i0 _ 4 40 Tryd.underlying44 HI.out.1 HI.out.2.1 HI.out.2.2.1 HI.out.2.2.2 rfl (by decide) (.slice (some ⟨w1.heap.size, 0, none⟩) 1 1) 1 ([kText s].flatMap KPart.cells) rfl O1.out a l.length c (l.flatMap KPart.cells) rfl NL.out (prow_news (hpc.out.on b1 hab)) (cells_all l) (by unfold maxLen; omega) (by omega) (by simp; omega) ?_
       intro v4 w4 hown4 hgrow4 hnil4 hat4
       have O4 := Lib.hid (own_rows hown4)
       have B4 := Lib.hid (below_grown (B1.out.alloc B1.out.size _) O1.out hgrow4)
       clear hown4 hgrow4 hnil4 hat4)
    | (go_at_call 28; (with_reducible refine (MK.out _ _ _ O4.out (cell0_on HM.out B4.out)).mono ?_); rintro e w5 ⟨rfl, b5⟩))
  go_ret2
  exact ⟨rfl, B4.out.trans (b5.mono B4.out.size)⟩
set_option maxRecDepth 100000 in
set_option maxHeartbeats 4000000 in
theorem under_ok {w : World} (s : ByteArray) (hs : s.size ≤ 1000) (l : List KPart) (hl : l.length ≤ 5) (a : Addr) (c : Nat) (hab : 0 < l.length → a.block < w.heap.size) (hc : ∀ i (h : i < l.length), PCells w (a.add (i * 4)) l[i]) (hok : ∀ p ∈ kText s :: l, p.ok ∧ p.s.size ≤ 9223372036854775807) (m : Int) (hm : Cell0 m w) (K A : List UInt8) (hmk : mkGo [] (kText s :: l) = (K, 0)) (AF : Hid (∀ W : World, Calls Tryd.prog 30 #[.string (bs K)] W fun e w' => e = .returned (.tuple #[.string (bs A), .bool true]) ∧ Below W.heap.size W w')) :
    Calls Tryd.prog 17 #[.string s, .slice (some a) l.length c] w (UnP w l K A) := by
  obtain ⟨i0, hi, hz0, hz1, hz2⟩ := info_parts infoPart
  have HI := Lib.hid (And.intro hi (And.intro hz0 (And.intro hz1 hz2)))
  clear hi hz0 hz1 hz2
  have MK := Lib.hid fun (W : World) (v : Value) (B : Nat) (h : W.ownsRow B 49 4 v (kText s :: l).length ((kText s :: l).flatMap KPart.cells)) (h2 : Cell0 m W) => make_own v B (kText s :: l) (by simp; omega) h hok m h2
  have HM := Lib.hid hm
  have TX := Lib.hid fun (W : World) => ktext_any s (by omega) W
  have NL := Lib.hid (show (l.flatMap KPart.cells).length = l.length * 4 from flat_len l)
  have hpc := Lib.hid (OnRow.mk (w := w) (a := a) (l := l) hc)
  rw [hmk] at MK
  clear hm hok hmk hs hc
  go_enter Tryd.func17, Tryd.ntmps17
  go_wp2_with (first
    | (go_at_call 29; (with_reducible refine (TX.out _).mono ?_); rintro e w1 ⟨rfl, b1⟩; have B1 := Lib.hid b1; have O1 := Lib.hid (own_one (B := w.heap.size) b1.size (kText s)); have hw1 := b1.size)
    | (at_builtin
       refine wpList_append_own_at _ rfl _ _ 44 rfl w.heap.size 49 i0 _ 4 40 Tryd.underlying44 HI.out.1 HI.out.2.1 HI.out.2.2.1 HI.out.2.2.2 rfl (by decide) (.slice (some ⟨w1.heap.size, 0, none⟩) 1 1) 1 ([kText s].flatMap KPart.cells) rfl O1.out a l.length c (l.flatMap KPart.cells) rfl NL.out (prow_news (hpc.out.on b1 hab)) (cells_all l) (by unfold maxLen; omega) (by omega) (by simp; omega) ?_
       intro v4 w4 hown4 hgrow4 hnil4 hat4
       have O4 := Lib.hid (own_rows hown4)
       have B4 := Lib.hid (below_grown (B1.out.alloc B1.out.size _) O1.out hgrow4)
       clear hown4 hgrow4 hnil4 hat4)
    | (go_at_call 28; (with_reducible refine (MK.out _ _ _ O4.out (cell0_on HM.out B4.out)).mono ?_); rintro e w5 ⟨rfl, b5⟩)
    | (go_at_call 30; (with_reducible refine (AF.out _).mono ?_); rintro e w6 ⟨rfl, b6⟩))
  go_ret2
  have B5 := B4.out.trans (b5.mono B4.out.size)
  exact ⟨rfl, B5.trans (b6.mono B5.size)⟩
set_option maxRecDepth 100000 in
set_option maxHeartbeats 4000000 in
theorem under_err0 {w : World} (s : ByteArray) (hs : s.size ≤ 1000) (l : List KPart) (hl : l.length ≤ 5)  (hl0 : l = []) (hok : ∀ p ∈ kText s :: l, p.ok ∧ p.s.size ≤ 9223372036854775807) (m : Int) (hm : Cell0 m w) (K : List UInt8) (E : Int) (hE : (E != 0) = true) (hmk : mkGo [] (kText s :: l) = (K, E)) :
    Calls Tryd.prog 17 #[.string s, .slice none 0 0] w (UnP w l [] []) := by
  subst hl0
  obtain ⟨i0, hi, hz0, hz1, hz2⟩ := info_parts infoPart
  have HI := Lib.hid (And.intro hi (And.intro hz0 (And.intro hz1 hz2)))
  clear hi hz0 hz1 hz2
  have MK := Lib.hid fun (W : World) (v : Value) (B : Nat) (h : W.ownsRow B 49 4 v [kText s].length ([kText s].flatMap KPart.cells)) (h2 : Cell0 m W) => make_own v B [kText s] (by simp) h hok m h2
  have HM := Lib.hid hm
  have TX := Lib.hid fun (W : World) => ktext_any s (by omega) W
  rw [hmk] at MK
  clear hm hok hmk hs
  go_enter Tryd.func17, Tryd.ntmps17
  go_wp2_with (first
    | (go_at_call 29; (with_reducible refine (TX.out _).mono ?_); rintro e w1 ⟨rfl, b1⟩; have B1 := Lib.hid b1; have O1 := Lib.hid (own_one (B := w.heap.size) b1.size (kText s)); have hw1 := b1.size)
    | (at_builtin
       refine wpList_append_own_none rfl _ _ 44 rfl w.heap.size 49 i0 4 Tryd.underlying44 HI.out.1 (.slice (some ⟨w1.heap.size, 0, none⟩) 1 1) 1 ([kText s].flatMap KPart.cells) rfl O1.out rfl ?_
       have O4 := Lib.hid O1.out
       have B4 := Lib.hid (B1.out.alloc B1.out.size (.cells #[.int .u8 116, .int .i64 0, .int .u64 0, .string s] 49)))
    | (go_at_call 28; (with_reducible refine (MK.out _ _ _ O4.out (cell0_on HM.out B4.out)).mono ?_); rintro e w5 ⟨rfl, b5⟩))
  go_ret2
  exact ⟨rfl, B4.out.trans (b5.mono B4.out.size)⟩
set_option maxRecDepth 100000 in
set_option maxHeartbeats 4000000 in
theorem under_ok0 {w : World} (s : ByteArray) (hs : s.size ≤ 1000) (l : List KPart) (hl : l.length ≤ 5)  (hl0 : l = []) (hok : ∀ p ∈ kText s :: l, p.ok ∧ p.s.size ≤ 9223372036854775807) (m : Int) (hm : Cell0 m w) (K A : List UInt8) (hmk : mkGo [] (kText s :: l) = (K, 0)) (AF : Hid (∀ W : World, Calls Tryd.prog 30 #[.string (bs K)] W fun e w' => e = .returned (.tuple #[.string (bs A), .bool true]) ∧ Below W.heap.size W w')) :
    Calls Tryd.prog 17 #[.string s, .slice none 0 0] w (UnP w l K A) := by
  subst hl0
  obtain ⟨i0, hi, hz0, hz1, hz2⟩ := info_parts infoPart
  have HI := Lib.hid (And.intro hi (And.intro hz0 (And.intro hz1 hz2)))
  clear hi hz0 hz1 hz2
  have MK := Lib.hid fun (W : World) (v : Value) (B : Nat) (h : W.ownsRow B 49 4 v [kText s].length ([kText s].flatMap KPart.cells)) (h2 : Cell0 m W) => make_own v B [kText s] (by simp) h hok m h2
  have HM := Lib.hid hm
  have TX := Lib.hid fun (W : World) => ktext_any s (by omega) W
  rw [hmk] at MK
  clear hm hok hmk hs
  go_enter Tryd.func17, Tryd.ntmps17
  go_wp2_with (first
    | (go_at_call 29; (with_reducible refine (TX.out _).mono ?_); rintro e w1 ⟨rfl, b1⟩; have B1 := Lib.hid b1; have O1 := Lib.hid (own_one (B := w.heap.size) b1.size (kText s)); have hw1 := b1.size)
    | (at_builtin
       refine wpList_append_own_none rfl _ _ 44 rfl w.heap.size 49 i0 4 Tryd.underlying44 HI.out.1 (.slice (some ⟨w1.heap.size, 0, none⟩) 1 1) 1 ([kText s].flatMap KPart.cells) rfl O1.out rfl ?_
       have O4 := Lib.hid O1.out
       have B4 := Lib.hid (B1.out.alloc B1.out.size (.cells #[.int .u8 116, .int .i64 0, .int .u64 0, .string s] 49)))
    | (go_at_call 28; (with_reducible refine (MK.out _ _ _ O4.out (cell0_on HM.out B4.out)).mono ?_); rintro e w5 ⟨rfl, b5⟩)
    | (go_at_call 30; (with_reducible refine (AF.out _).mono ?_); rintro e w6 ⟨rfl, b6⟩))
  go_ret2
  have B5 := B4.out.trans (b5.mono B4.out.size)
  exact ⟨rfl, B5.trans (b6.mono B5.size)⟩
end Go.Proofs.YtelbhegkaihjhaaDoor
