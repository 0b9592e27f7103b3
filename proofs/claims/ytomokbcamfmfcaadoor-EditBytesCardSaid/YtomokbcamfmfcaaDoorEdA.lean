/-
  The Go text of files' names, walked: strconv.FormatUint at base 10, Name, Number. Conditions: as each theorem states.
-/
import Derived.Test.YtomokbcamfmfcaaDoorEdNum
import Derived.Test.YtomokbcamfmfcaaDoorBaR
import Derived.Lib.AppendIntMem
import Derived.Lib.ItoaWalk
import Derived.BigCall
import Derived.BigGuard
namespace Go.Proofs.YtomokbcamfmfcaaDoor.Ed
open Go.RowKit Go.Lib Go.Sort
open Go.Proofs.YtomokbcamfmfcaaDoor
open Vi

def Tab (w : World) : Prop := Lib.TabIs Tryd.prog w "internal/strconv.uint64pow10" .u64 Lib.pow10Tab
theorem Tab.on {w w' : World} (h : Tab w) (hb : Below w.heap.size w w') : Tab w' := Lib.tabBelow_of_tabIs h w' hb
def SPost (w : World) (l : List UInt8) (e : Ending) (w' : World) : Prop := e = .returned (.string (bs l)) ∧ Below w.heap.size w w'
theorem fmt_small (u : Nat) (hu : u < 100) (w : World) : Calls Tryd.prog 50 #[.int .u64 u, .int .i64 10] w (SPost w (decDigits u)) := by
  go_enter Tryd.func50, Tryd.ntmps50
  go_wp2_with (go_at_call 69; refine (Tryd.internal_strconv_small u hu _).mono ?_; rintro e w' ⟨rfl, rfl⟩)
  go_ret
  exact ⟨rfl, Below.refl _ _⟩
set_option maxHeartbeats 6400000 in
set_option maxRecDepth 100000 in
theorem fmt_big (u : Nat) (h100 : 100 ≤ u) (hu64 : u < 18446744073709551616) (w : World) (htab : Tab w) : Calls Tryd.prog 50 #[.int .u64 u, .int .i64 10] w (SPost w (decDigits u)) := by
  have hu1 : 1 ≤ u := by omega
  have hnd20 : Lib.nDigits u ≤ 20 := by have := Lib.numDigits_eq u hu1 hu64; split at this <;> omega
  have hal : Tryd.prog.arrayLen 117 = 24 := by kernel_rfl
  have hsl : ∀ W, (Instr.sliceAt 117 (.pointer (some ⟨w.heap.size, 0, none⟩)) none (some (.int .i64 (Lib.nDigits u : Int))) none).run Tryd.prog W = .ok (.slice (some ⟨w.heap.size, 0, none⟩) (Lib.nDigits u) 24) W := fun W => by
    rw [run_sliceAt_array_h W 117 ⟨w.heap.size, 0, none⟩ (by simp [Program.arrayLen, Program.elem, Tryd.underlying117]) .i64 (Lib.nDigits u : Int) (by omega) (by rw [hal]; omega)]
    go_simp
  have hH0 := Lib.holds_zero0 w 117 (Lib.nDigits u) (by omega)
  have hfmt := Tryd.internal_strconv_formatBase10 w.heap.size 0 24 u (Array.replicate (Lib.nDigits u) 0) (w.alloc (.cells Lib.zeros24 117)) hH0 (by rw [Array.size_replicate]; exact Lib.lt_pow_nDigits u) hu64 (by rw [Array.size_replicate]; omega)
  rw [Array.size_replicate] at hfmt
  have HH0 := Lib.hid hH0
  have iu : (100 : Int) ≤ (u : Int) := by omega
  clear hH0 hal
  unfold Tab at htab
  go_enter Tryd.func50, Tryd.ntmps50
  go_wp2_with (first
    | (go_at_call 70; refine (Tryd.internal_strconv_numDigits u hu1 hu64 _ (Lib.tabIs_alloc htab _)).mono ?_; rintro e w' ⟨rfl, rfl⟩))
  go_at_call 71
  refine hfmt.mono ?_
  rintro e w' ⟨rfl, k, v', dk, rfl, hF⟩
  have hcv : (convert 60 9 (.slice (some ⟨w.heap.size, 0, none⟩) (Lib.nDigits u) 24)).run Tryd.prog ((putRow (fun (b : UInt8) => Value.int .u8 (b.toNat : Int)) (w.alloc (.cells Lib.zeros24 117)) w.heap.size 0 dk).drewN k) = .ok (.string ⟨(Lib.decDigits u).toArray⟩) ((putRow (fun (b : UInt8) => Value.int .u8 (b.toNat : Int)) (w.alloc (.cells Lib.zeros24 117)) w.heap.size 0 dk).drewN k) := by
    have h := run_convert_bytes_back (P := Tryd.prog) ((putRow (fun (b : UInt8) => Value.int .u8 (b.toNat : Int)) (w.alloc (.cells Lib.zeros24 117)) w.heap.size 0 dk).drewN k) 60 9 5 ⟨w.heap.size, 0, none⟩ 24 (Lib.decDigits u) Tryd.underlying60 Tryd.underlying5 Tryd.underlying9 (fun j hj => by
      rw [Lib.row_is_numeral hF j hj, Lib.add_plain, World.cell?_drewN]
      exact cell?_putRow (fun (b : UInt8) => Value.int .u8 (b.toNat : Int)) _ w.heap.size 0 _ dk HH0.out (by rw [hF.size, Array.size_replicate]) j (by rw [hF.size]; rw [Lib.decDigits_length] at hj; exact hj))
    rw [Lib.decDigits_length] at h
    exact h
  obtain ⟨os, eo⟩ := Lib.fin_at w (.cells Lib.zeros24 117) dk k 0
  have hb : Below w.heap.size w ((putRow (fun (b : UInt8) => Value.int .u8 (b.toNat : Int)) (w.alloc (.cells Lib.zeros24 117)) w.heap.size 0 dk).drewN k) := by rw [eo]; exact Lib.below_grow _ w (Nat.le_refl _) k os
  clear eo
  go_wp2
  go_ret
  exact ⟨rfl, hb⟩
theorem fmt_any (u : Nat) (hu : u < 18446744073709551616) (w : World) (htab : Tab w) : Calls Tryd.prog 23 #[.int .u64 u, .int .i64 10] w (SPost w (decDigits u)) := by
  have H : Hid (Calls Tryd.prog 50 #[.int .u64 u, .int .i64 10] w (SPost w (decDigits u))) := by
    rcases Nat.lt_or_ge u 100 with h | h
    · exact fmt_small u h w
    · exact fmt_big u h hu w htab
  go_enter Tryd.func23, Tryd.ntmps23
  go_wp2_with (go_at_call 50; (with_reducible refine H.out.mono ?_); rintro e w' ⟨rfl, hb⟩)
  go_ret
  exact ⟨rfl, hb⟩
/-- a file's name -/
def nm (kind : List UInt8) (u : Nat) : List UInt8 := (kind ++ [45]) ++ decDigits u
theorem name_any (kind : List UInt8) (hk : kind.length ≤ 1000) (u : Nat) (hu : u < 18446744073709551616) (w : World) (htab : Tab w) :
    Calls Tryd.prog 9 #[.string (bs kind), .int .u64 u] w (SPost w (nm kind u)) := by
  have H := Lib.hid (fmt_any u hu w htab)
  have z1 : (bs kind).size ≤ 1000 := by rw [bs_size]; exact hk
  have z2 : (bs (decDigits u)).size ≤ 20 := by rw [bs_size]; exact digits_len20 hu
  go_enter Tryd.func9, Tryd.ntmps9
  go_wp2_with (go_at_call 23; (with_reducible refine H.out.mono ?_); rintro e w' ⟨rfl, hb⟩)
  go_ret
  refine ⟨?_, hb⟩
  unfold nm
  rw [← bs_append, ← bs_append]
  rfl
/-- the sentinels of strconv lie -/
def Sent (w : World) (n : String) : Prop := ∃ tp p, w.var? Tryd.prog n = some #[.iface tp p]
theorem Sent.on {w w' : World} {n : String} (h : Sent w n) (hb : Below w.heap.size w w') : Sent w' n := by
  obtain ⟨tp, p, h⟩ := h
  refine ⟨tp, p, ?_⟩
  unfold World.var? at *
  cases hg : Program.globalNamed Tryd.prog n with
  | none => simp [hg] at h
  | some g =>
    simp only [hg, Option.bind_some] at h ⊢
    have hlt : g < w.heap.size := by
      rcases Nat.lt_or_ge g w.heap.size with h' | h'
      · exact h'
      · rw [Array.getElem?_eq_none h'] at h; simp at h
    rw [hb.block g hlt]
    exact h
structure Known (w : World) : Prop where
  tab : Tab w
  syn : Sent w "strconv.ErrSyntax"
  rng : Sent w "strconv.ErrRange"
theorem Known.on {w w' : World} (h : Known w) (hb : Below w.heap.size w w') : Known w' := ⟨h.tab.on hb, h.syn.on hb, h.rng.on hb⟩
/-- what ParseUint answers, in short: a number, or an error -/
theorem parse_ok (s : ByteArray) (hs : s.size ≤ 100000) (u : Nat) (h : Lib.parseUintB 64 s.data.toList = .ok u) (w : World) :
    Calls Tryd.prog 22 #[.string s, .int .i64 10, .int .i64 64] w fun e w' => e = .returned (.tuple #[.int .u64 u, .nilIface]) ∧ Below w.heap.size w w' := by
  refine (Tryd.strconv_ParseUint_10_at64_ok s (by omega) u h w).mono ?_
  rintro e w' ⟨h1, h2⟩
  refine ⟨h1, ?_⟩
  rcases h2 with rfl | rfl
  · exact Below.refl _ _
  · exact Lib.bytesWorld_below _ _ _
theorem parse_no (s : ByteArray) (hs : s.size ≤ 100000) (h : ∀ u, Lib.parseUintB 64 s.data.toList ≠ .ok u) (w : World) (hk : Known w) :
    Calls Tryd.prog 22 #[.string s, .int .i64 10, .int .i64 64] w fun e w' => (∃ (x N : Nat) (tp : TypeId), e = .returned (.tuple #[.int .u64 x, .iface tp (.pointer (some ⟨N, 0, none⟩))])) ∧ Below w.heap.size w w' := by
  rcases hc : Lib.parseUintB 64 s.data.toList with u | _ | _
  · exact absurd hc (h u)
  · obtain ⟨tp, p, hv⟩ := hk.syn
    refine (Any.strconv_ParseUint_10_at64_syntax_var Tryd.laysPu14 s (by omega) hc tp p w hv).mono ?_
    rintro e w' ⟨N, h1, _, _, h2⟩
    exact ⟨⟨0, N, _, h1⟩, h2⟩
  · obtain ⟨tp, p, hv⟩ := hk.rng
    refine (Tryd.strconv_ParseUint_10_at64_range_var s (by omega) hc tp p w hv).mono ?_
    rintro e w' ⟨N, h1, _, _, h2⟩
    exact ⟨⟨18446744073709551615, N, _, h1⟩, h2⟩
/-- the number of a name -/
def number (kind name : List UInt8) : Option Nat :=
  if Lib.hasPrefix name (kind ++ [45]) then
    match Lib.parseUintB 64 (Lib.trimPrefix name (kind ++ [45])) with
    | .ok u => if nm kind u = name then some u else none
    | _ => none
  else none
def NuPost (w : World) (r : Option Nat) (e : Ending) (w' : World) : Prop := e = .returned (.tuple #[.int .u64 (r.getD 0 : Nat), .bool r.isSome]) ∧ Below w.heap.size w w'
theorem cut_at (kind name : List UInt8) (w : World) : Calls Tryd.prog 21 #[.string (bs name), .string (bs kind ++ ⟨#[45]⟩)] w fun e w' => e = .returned (.tuple #[.string (bs (Lib.trimPrefix name (kind ++ [45]))), .bool (Lib.hasPrefix name (kind ++ [45]))]) ∧ w' = w := by
  have e : bs kind ++ ⟨#[45]⟩ = bs (kind ++ [45]) := by rw [← bs_append]; rfl
  rw [e]
  exact Tryd.strings_CutPrefix _ _ w
theorem trim_len (s p : List UInt8) : (Lib.trimPrefix s p).length ≤ s.length := by
  unfold Lib.trimPrefix; split
  · rw [List.length_drop]; omega
  · exact Nat.le_refl _
theorem bs_inj {a b : List UInt8} (h : bs a = bs b) : a = b := by rw [← bs_toList a, ← bs_toList b, h]
theorem nm_eq (kind : List UInt8) (u : Nat) : bs kind ++ ⟨#[45]⟩ ++ bs (decDigits u) = bs (nm kind u) := by
  unfold nm; rw [← bs_append, ← bs_append]; rfl
theorem number_any (kind name : List UInt8) (hk : kind.length ≤ 1000) (hn : name.length ≤ 10000) (w : World) (hw : Known w) :
    Calls Tryd.prog 7 #[.string (bs kind), .string (bs name)] w (NuPost w (number kind name)) := by
  have hcut := Lib.hid (cut_at kind name)
  have z1 : (bs kind).size ≤ 1000 := by rw [bs_size]; exact hk
  have hl := trim_len name (kind ++ [45])
  cases hp : Lib.hasPrefix name (kind ++ [45]) with
  | false =>
    rw [show number kind name = none by unfold number; rw [hp]; rfl]
    rw [hp] at hcut
    generalize Lib.trimPrefix name (kind ++ [45]) = D at hcut
    go_enter Tryd.func7, Tryd.ntmps7
    go_wp2_with (go_at_call 21; (with_reducible refine (hcut.out _).mono ?_); rintro e w' ⟨rfl, rfl⟩)
    go_ret2
    exact ⟨rfl, Below.refl _ _⟩
  | true =>
    have hnum : number kind name = match Lib.parseUintB 64 (Lib.trimPrefix name (kind ++ [45])) with
      | .ok u => if nm kind u = name then some u else none
      | _ => none := by unfold number; rw [hp]; rfl
    rw [hp] at hcut
    generalize Lib.trimPrefix name (kind ++ [45]) = D at hcut hnum hl
    have hD : (bs D).size ≤ 100000 := by rw [bs_size]; omega
    by_cases hu : ∃ u, Lib.parseUintB 64 D = .ok u
    · obtain ⟨u, hu⟩ := hu
      have hu64 : u < 18446744073709551616 := by have := Lib.parseUintB_le hu; omega
      rw [hu] at hnum
      simp only at hnum
      have HP := Lib.hid (parse_ok (bs D) hD u hu)
      have HN := Lib.hid fun (W : World) (h : Tab W) => name_any kind hk u hu64 W h
      have HT := Lib.hid hw.tab
      clear hw hu
      by_cases he : nm kind u = name
      · rw [hnum, if_pos he]
        clear hnum
        subst he
        have hse : ((bs (nm kind u)).toList == (bs (nm kind u)).toList) = true := beq_self_eq_true _
        go_enter Tryd.func7, Tryd.ntmps7
        go_wp2_with (first
          | (go_at_call 21; (with_reducible refine (hcut.out _).mono ?_); rintro e w' ⟨rfl, rfl⟩)
          | (go_at_call 22; (with_reducible refine (HP.out _).mono ?_); rintro e w2 ⟨rfl, hb2⟩; have HT2 := Lib.hid (HT.out.on hb2))
          | (go_at_call 9; (with_reducible refine (HN.out _ HT2.out).mono ?_); rintro e w3 ⟨rfl, hb3⟩))
        go_ret2
        exact ⟨rfl, hb2.trans (hb3.mono hb2.size)⟩
      · rw [hnum, if_neg he]
        have hne : ((bs (nm kind u)).toList == (bs name).toList) = false := by rw [bs_list, bs_list]; simpa using he
        clear hnum he
        go_enter Tryd.func7, Tryd.ntmps7
        go_wp2_with (first
          | (go_at_call 21; (with_reducible refine (hcut.out _).mono ?_); rintro e w' ⟨rfl, rfl⟩)
          | (go_at_call 22; (with_reducible refine (HP.out _).mono ?_); rintro e w2 ⟨rfl, hb2⟩; have HT2 := Lib.hid (HT.out.on hb2))
          | (go_at_call 9; (with_reducible refine (HN.out _ HT2.out).mono ?_); rintro e w3 ⟨rfl, hb3⟩))
        go_ret2
        exact ⟨rfl, hb2.trans (hb3.mono hb2.size)⟩
    · have hno : ∀ u, Lib.parseUintB 64 D ≠ .ok u := fun u h => hu ⟨u, h⟩
      have e0 : number kind name = none := by
        rw [hnum]
        split
        · rename_i u h; exact absurd h (hno u)
        · rfl
      rw [e0]
      have HP := Lib.hid (parse_no (bs D) hD hno)
      have HK := Lib.hid hw
      clear hw hnum hu hno e0
      go_enter Tryd.func7, Tryd.ntmps7
      go_wp2_with (first
        | (go_at_call 21; (with_reducible refine (hcut.out _).mono ?_); rintro e w' ⟨rfl, rfl⟩)
        | (go_at_call 22; (with_reducible refine (HP.out _ HK.out).mono ?_); rintro e w2 ⟨⟨x, N, tp, rfl⟩, hb2⟩))
      go_ret2
      exact ⟨rfl, hb2⟩
end Go.Proofs.YtomokbcamfmfcaaDoor.Ed
