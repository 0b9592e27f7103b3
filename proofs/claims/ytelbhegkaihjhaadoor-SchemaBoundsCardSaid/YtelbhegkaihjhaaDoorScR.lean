/-
  The law of keys' bounds, walked. Conditions: as each theorem states.
-/
import Derived.Test.YtelbhegkaihjhaaDoorScQ
import Derived.Test.YtelbhegkaihjhaaDoorScH
namespace Go.Proofs.YtelbhegkaihjhaaDoor
open Go.RowKit
open Vi

/-- what Under and the document's Make answer behind the loop -/
def UnC (w : World) (s : ByteArray) (A : Option Addr) (c : Nat) (l : List KPart) (F T : List UInt8) : Prop :=
  ∀ W : World, Below w.heap.size w W → Calls Tryd.prog 17 #[.string s, .slice A l.length c] W fun e w' => e = .returned (.tuple #[.string (bs F), .string (bs T)]) ∧ Below W.heap.size W w'
def RmC (w : World) (s : ByteArray) (l : List KPart) (K : List UInt8) (E : Int) : Prop :=
  ∀ (W : World) (v : Value), W.ownsRow w.heap.size 46 4 v (kText s :: l).length ((kText s :: l).flatMap KPart.cells) → Calls Tryd.prog 18 #[v] W fun e w' => e = .returned (.tuple #[.string (bs K), .int .i64 E]) ∧ Below W.heap.size W w'
structure EndErr (w : World) (s : ByteArray) (A : Option Addr) (c : Nat) (l : List KPart) (K : List UInt8) (E : Int) : Prop where
  un : UnC w s A c l [] []
  rm : RmC w s l K E
  he : (E != 0) = true
structure EndOk (w : World) (s : ByteArray) (A : Option Addr) (c : Nat) (l : List KPart) (T K B : List UInt8) (x1 x5 x3 : Bool) : Prop where
  un : UnC w s A c l K B
  rm : RmC w s l K 0
  nb : (B == []) = false
  gt : Op.bytesLess B K = false
  ne : (B == K) = false
  e1 : Op.bytesLess T K = x1
  e5 : Op.bytesLess T B = x5
  e3 : Lib.hasPrefix T K = x3
def Ends (w : World) (s : ByteArray) (A : Option Addr) (c : Nat) (l : List KPart) (T : List UInt8) : Prop :=
  (∃ K E, EndErr w s A c l K E) ∨ (∃ K B x, EndOk w s A c l T K B true x false) ∨ (∃ K B, EndOk w s A c l T K B false false false) ∨ (∃ K B, EndOk w s A c l T K B false true true)
theorem bl_asymm : ∀ a b : List UInt8, Op.bytesLess a b = true → Op.bytesLess b a = false
  | [], b, _ => bl_nil b
  | x :: a, [], h => by rw [bl_nil] at h; cases h
  | x :: a, y :: b, h => by
    by_cases h1 : x.toNat < y.toNat
    · exact bl_gt h1 b a
    · by_cases h2 : y.toNat < x.toNat
      · rw [bl_gt h2] at h; cases h
      · obtain rfl : x = y := toNat_eq (by omega)
        rw [bl_eq] at h ⊢
        exact bl_asymm a b h
theorem bl_ne {a b : List UInt8} (h : Op.bytesLess a b = true) : (b == a) = false := by
  have : ¬ b = a := fun e => by rw [e, bl_irrefl] at h; cases h
  simpa using this
def BdJ (w : World) (s : ByteArray) (l : List KPart) (v i : Value) (wr : World) : Prop :=
  ∃ (j : Nat) (L : List KPart), j ≤ l.length ∧ L = kText s :: l.take j ∧ (∀ k (h : k < l.length), k < j → l[k].s.size ≤ 300) ∧ i = .int .i64 j ∧ wr.ownsRow w.heap.size 46 4 v L.length (L.flatMap KPart.cells) ∧ Below w.heap.size w wr
theorem rnews2 (wr : World) (o : Obj) (q : KPart) : ∀ j u, q.cells[j]? = some u → ((wr.alloc o).alloc (.cells #[.int .u8 q.sort, .int .i64 q.n, .int .u64 q.u, .string q.s] 46)).cell? ((⟨wr.heap.size + 1, 0, none⟩ : Addr).add j) = some u :=
  World.news_of_block (heap_second wr _ _)
set_option maxRecDepth 100000 in
set_option maxHeartbeats 8000000 in
theorem bounds_heavy {w : World} (s T : ByteArray) (A : Option Addr) (c n : Nat) (hn : n ≤ 9223372036854775807) (hs : s.size ≤ 9223372036854775807) (hT : T.size ≤ 9223372036854775807) (m : Int) (hm : Cell0 m w) (h : 5 < n ∨ (¬ 5 < n ∧ 300 < s.size) ∨ (¬ 5 < n ∧ ¬ 300 < s.size ∧ 300 < T.size)) :
    Calls Tryd.prog 4 #[.string s, .slice A n c, .string T] w fun e w' => e = .returned (.bool true) ∧ Below w.heap.size w w' := by
  have AW := Lib.hid (awake_any w m hm)
  clear hm
  rcases h with h | ⟨h, h2⟩ | ⟨h, h2, h3⟩
  all_goals
    go_enter Tryd.func4, Tryd.ntmps4
    go_wp2_with (go_at_call 6; (with_reducible refine AW.out.mono ?_); rintro e w1 ⟨rfl, b1⟩)
    go_ret
    exact ⟨rfl, b1⟩
set_option maxRecDepth 100000 in
set_option maxHeartbeats 8000000 in
theorem bounds_light {w : World} (s : ByteArray) (T : List UInt8) (A : Option Addr) (c : Nat) (l : List KPart) (hl : l.length ≤ 5) (hs : s.size ≤ 300) (hT : T.length ≤ 300) (hr : PRow w A l) (hok : ∀ p ∈ l, p.ok ∧ p.s.size ≤ 9223372036854775807) (m : Int) (hm : Cell0 m w)
    (hend : (∀ k (h : k < l.length), l[k].s.size ≤ 300) → Ends w s A c l T) :
    Calls Tryd.prog 4 #[.string s, .slice A l.length c, .string (bs T)] w fun e w' => e = .returned (.bool true) ∧ Below w.heap.size w w' := by
  have AW := Lib.hid (awake_any w m hm)
  obtain ⟨i0, hi, hz0, hz1, hz2⟩ := info_parts infoRPart
  have HI := Lib.hid (And.intro hi (And.intro hz0 (And.intro hz1 hz2)))
  clear hi hz0 hz1 hz2
  have HR := Lib.hid hr
  have HO := Lib.hid hok
  have HE := Lib.hid hend
  have hbl := bs_list
  have hbz := bs_size
  have hbd := bs_toList
  clear hm hr hok hend
  go_enter Tryd.func4, Tryd.ntmps4
  go_wp2_with (first
    | (go_at_call 6; (with_reducible refine AW.out.mono ?_); rintro e w1 ⟨rfl, b1⟩)
    | (go_at_call 16; (with_reducible refine (rtext_any s _).mono ?_); rintro e w2 ⟨rfl, b2⟩; have B2 := Lib.hid (b1.trans (b2.mono b1.size)); have O2 := Lib.hid (rown_one (w := w) B2.out.size s)))
  have J0 := Lib.hid (show BdJ w s l (.slice (some ⟨w2.heap.size, 0, none⟩) 1 1) (.int .i64 0) (w2.alloc (.cells #[.int .u8 116, .int .i64 0, .int .u64 0, .string s] 46)) from ⟨0, [kText s], by omega, rfl, fun _ _ h => by omega, rfl, O2.out, B2.out.alloc B2.out.size _⟩)
  go_loopw [7, 35] (BdJ w s l) (fun _ i _ => l.length - (intOf i).toNat)
  case atStart => exact J0.out
  case round =>
    obtain ⟨j, L, hj, hL, hsm, rfl, hown, hb⟩ := hrel
    by_cases hlt : j < l.length
    · obtain ⟨a, rfl, hab, hc⟩ := HR.out (by omega)
      obtain ⟨x0, x1, x2, x3⟩ := (hc j hlt).keep (w' := wr) fun q hq => hb.cell (by rw [hq, block_add]; exact hab)
      have hps := (HO.out l[j] (List.getElem_mem hlt)).2
      have HT : Hid (kText s :: l.take (j + 1) = L ++ [l[j]]) := by rw [Hid, hL, List.take_succ_eq_append_getElem hlt]; rfl
      have hLl : L.length ≤ 6 := by rw [hL, List.length_cons, List.length_take]; omega
      have HS : Hid (l[j].s.size ≤ 300 → ∀ k (h : k < l.length), k < j + 1 → l[k].s.size ≤ 300) := fun hx k h hk => by
        by_cases e : k = j
        · subst e; exact hx
        · exact hsm k h (by omega)
      clear hc hsm hL
      generalize l[j] = p at x0 x1 x2 x3 HT hps HS
      obtain ⟨q1, q2, q3, q4⟩ := p
      simp only at x0 x1 x2 x3 hps
      have hsz := hb.size
      have HW := Lib.hid hown
      have HB := Lib.hid hb
      clear hown hb
      by_cases h3 : 300 < q4.size
      · go_wp2
        go_ret
        exact ⟨rfl, HB.out.alloc HB.out.size _⟩
      · go_wp2_with (first
          | (at_builtin
             refine wpList_append_lies _ rfl _ _ 48 rfl w.heap.size 46 i0 _ 4 40 Tryd.underlying48 HI.out.1 HI.out.2.1 HI.out.2.2.1 HI.out.2.2.2 rfl (by decide) u7 L.length (L.flatMap KPart.cells) rfl ((HW.out.alloc _).alloc _) ⟨wr.heap.size + 1, 0, none⟩ 1 1 (KPart.cells ⟨q1, q2, q3, q4⟩) rfl rfl (rnews2 wr _ ⟨q1, q2, q3, q4⟩) (cells_one _) (by omega) (by unfold maxLen; omega) (by omega) (by simp; omega) (wr.heap.size + 2) (by simp) ?_
             intro g8 cap8 w8 hown8 hgrow8 hwhere8 hlt8
             have H8 := Lib.hid (And.intro hown8 hgrow8)
             clear hown8 hgrow8 hwhere8 hlt8))
        go_roundw
        case rel => exact ⟨j + 1, L ++ [⟨q1, q2, q3, q4⟩], by omega, HT.out.symm, HS.out (by show q4.size ≤ 300; omega), by go_num, by rw [List.flatMap_append, List.length_append]; simpa using H8.out.1, rbelow_grown ((HB.out.alloc HB.out.size _).alloc (by simp; omega) _) ((HW.out.alloc _).alloc _) H8.out.2⟩
        case measure => simp [intOf]; omega
    · have hLl : L = kText s :: l := by rw [hL, List.take_of_length_le (by omega)]
      have X := HE.out (fun k h => hsm k h (by omega))
      subst hLl
      have HO := Lib.hid hown
      have HB := Lib.hid hb
      clear hown hb hsm hL HE
      rcases X with ⟨K, E, X⟩ | ⟨K, B, x, X⟩ | ⟨K, B, X⟩ | ⟨K, B, X⟩
      · obtain ⟨un, rm, he⟩ := X
        replace un : Hid (∀ W : World, Below w.heap.size w W → Calls Tryd.prog 17 #[.string s, .slice A l.length c] W fun e w' => e = .returned (.tuple #[.string (bs []), .string (bs [])]) ∧ Below W.heap.size W w') := un
        replace rm : Hid (∀ (W : World) (v : Value), W.ownsRow w.heap.size 46 4 v (kText s :: l).length ((kText s :: l).flatMap KPart.cells) → Calls Tryd.prog 18 #[v] W fun e w' => e = .returned (.tuple #[.string (bs K), .int .i64 E]) ∧ Below W.heap.size W w') := rm
        go_wp2_with (first
          | (go_at_call 17; (with_reducible refine (un.out _ HB.out).mono ?_); rintro e w5 ⟨rfl, b5⟩; have B5 := Lib.hid (HB.out.trans (b5.mono HB.out.size)); have O5 := Lib.hid (own_on HO.out b5))
          | (go_at_call 18; (with_reducible refine (rm.out _ _ O5.out).mono ?_); rintro e w6 ⟨rfl, b6⟩))
        go_ret
        exact ⟨rfl, B5.out.trans (b6.mono B5.out.size)⟩
      · obtain ⟨un, rm, nb, gt, ne, e1, e5, e3⟩ := X
        replace un : Hid (∀ W : World, Below w.heap.size w W → Calls Tryd.prog 17 #[.string s, .slice A l.length c] W fun e w' => e = .returned (.tuple #[.string (bs K), .string (bs B)]) ∧ Below W.heap.size W w') := un
        replace rm : Hid (∀ (W : World) (v : Value), W.ownsRow w.heap.size 46 4 v (kText s :: l).length ((kText s :: l).flatMap KPart.cells) → Calls Tryd.prog 18 #[v] W fun e w' => e = .returned (.tuple #[.string (bs K), .int .i64 0]) ∧ Below W.heap.size W w') := rm
        go_wp2_with (first
          | (go_at_call 17; (with_reducible refine (un.out _ HB.out).mono ?_); rintro e w5 ⟨rfl, b5⟩; have B5 := Lib.hid (HB.out.trans (b5.mono HB.out.size)); have O5 := Lib.hid (own_on HO.out b5))
          | (go_at_call 18; (with_reducible refine (rm.out _ _ O5.out).mono ?_); rintro e w6 ⟨rfl, b6⟩)
          | (go_at_call 19; refine (Tryd.strings_HasPrefix _ _ _).mono ?_; rintro e w7 ⟨rfl, rfl⟩))
        go_ret
        exact ⟨rfl, B5.out.trans (b6.mono B5.out.size)⟩
      · obtain ⟨un, rm, nb, gt, ne, e1, e5, e3⟩ := X
        replace un : Hid (∀ W : World, Below w.heap.size w W → Calls Tryd.prog 17 #[.string s, .slice A l.length c] W fun e w' => e = .returned (.tuple #[.string (bs K), .string (bs B)]) ∧ Below W.heap.size W w') := un
        replace rm : Hid (∀ (W : World) (v : Value), W.ownsRow w.heap.size 46 4 v (kText s :: l).length ((kText s :: l).flatMap KPart.cells) → Calls Tryd.prog 18 #[v] W fun e w' => e = .returned (.tuple #[.string (bs K), .int .i64 0]) ∧ Below W.heap.size W w') := rm
        go_wp2_with (first
          | (go_at_call 17; (with_reducible refine (un.out _ HB.out).mono ?_); rintro e w5 ⟨rfl, b5⟩; have B5 := Lib.hid (HB.out.trans (b5.mono HB.out.size)); have O5 := Lib.hid (own_on HO.out b5))
          | (go_at_call 18; (with_reducible refine (rm.out _ _ O5.out).mono ?_); rintro e w6 ⟨rfl, b6⟩)
          | (go_at_call 19; refine (Tryd.strings_HasPrefix _ _ _).mono ?_; rintro e w7 ⟨rfl, rfl⟩))
        go_ret
        exact ⟨rfl, B5.out.trans (b6.mono B5.out.size)⟩
      · obtain ⟨un, rm, nb, gt, ne, e1, e5, e3⟩ := X
        replace un : Hid (∀ W : World, Below w.heap.size w W → Calls Tryd.prog 17 #[.string s, .slice A l.length c] W fun e w' => e = .returned (.tuple #[.string (bs K), .string (bs B)]) ∧ Below W.heap.size W w') := un
        replace rm : Hid (∀ (W : World) (v : Value), W.ownsRow w.heap.size 46 4 v (kText s :: l).length ((kText s :: l).flatMap KPart.cells) → Calls Tryd.prog 18 #[v] W fun e w' => e = .returned (.tuple #[.string (bs K), .int .i64 0]) ∧ Below W.heap.size W w') := rm
        go_wp2_with (first
          | (go_at_call 17; (with_reducible refine (un.out _ HB.out).mono ?_); rintro e w5 ⟨rfl, b5⟩; have B5 := Lib.hid (HB.out.trans (b5.mono HB.out.size)); have O5 := Lib.hid (own_on HO.out b5))
          | (go_at_call 18; (with_reducible refine (rm.out _ _ O5.out).mono ?_); rintro e w6 ⟨rfl, b6⟩)
          | (go_at_call 19; refine (Tryd.strings_HasPrefix _ _ _).mono ?_; rintro e w7 ⟨rfl, rfl⟩))
        go_ret
        exact ⟨rfl, B5.out.trans (b6.mono B5.out.size)⟩
end Go.Proofs.YtelbhegkaihjhaaDoor
