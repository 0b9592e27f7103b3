/-
  The Go text of files' names, walked: strconv.FormatUint at base 10, Name, Number. Conditions: as each theorem states.
-/
import Derived.Test.YtkocekogkpemiaaDoorEdNum
import Derived.Test.YtkocekogkpemiaaDoorBaR
import Derived.Lib.AppendIntMem
import Derived.Lib.ItoaWalk
import Derived.BigCall
import Derived.BigGuard
namespace Go.Proofs.YtkocekogkpemiaaDoor.Ed
open Go.RowKit Go.Lib Go.Sort
open Go.Proofs.YtkocekogkpemiaaDoor
open Vi

def Tab (w : World) : Prop := Lib.TabIs Tryd.prog w "internal/strconv.uint64pow10" .u64 Lib.pow10Tab
theorem Tab.on {w w' : World} (h : Tab w) (hb : Below w.heap.size w w') : Tab w' := Lib.tabBelow_of_tabIs h w' hb
def SPost (w : World) (l : List UInt8) (e : Ending) (w' : World) : Prop := e = .returned (.string (bs l)) ∧ Below w.heap.size w w'
theorem fmt_small (u : Nat) (hu : u < 100) (w : World) : Calls Tryd.prog 63 #[.int .u64 u, .int .i64 10] w (SPost w (decDigits u)) := by
  go_enter Tryd.func63, Tryd.ntmps63
  go_wp2_with (go_at_call 67; refine (Tryd.internal_strconv_small u hu _).mono ?_; rintro e w' ⟨rfl, rfl⟩)
  go_ret
  exact ⟨rfl, Below.refl _ _⟩
set_option maxHeartbeats 6400000 in
set_option maxRecDepth 100000 in
theorem fmt_big (u : Nat) (h100 : 100 ≤ u) (hu64 : u < 18446744073709551616) (w : World) (htab : Tab w) : Calls Tryd.prog 63 #[.int .u64 u, .int .i64 10] w (SPost w (decDigits u)) := by
  have hu1 : 1 ≤ u := by omega
  have hnd20 : Lib.nDigits u ≤ 20 := by have := Lib.numDigits_eq u hu1 hu64; split at this <;> omega
  have hal : Tryd.prog.arrayLen 124 = 24 := by kernel_rfl
  have hsl : ∀ W, (Instr.sliceAt 124 (.pointer (some ⟨w.heap.size, 0, none⟩)) none (some (.int .i64 (Lib.nDigits u : Int))) none).run Tryd.prog W = .ok (.slice (some ⟨w.heap.size, 0, none⟩) (Lib.nDigits u) 24) W := fun W => by
    rw [run_sliceAt_array_h W 124 ⟨w.heap.size, 0, none⟩ (by simp [Program.arrayLen, Program.elem, Tryd.underlying124]) .i64 (Lib.nDigits u : Int) (by omega) (by rw [hal]; omega)]
    go_simp
  have hH0 := Lib.holds_zero0 w 124 (Lib.nDigits u) (by omega)
  have hfmt := Tryd.internal_strconv_formatBase10 w.heap.size 0 24 u (Array.replicate (Lib.nDigits u) 0) (w.alloc (.cells Lib.zeros24 124)) hH0 (by rw [Array.size_replicate]; exact Lib.lt_pow_nDigits u) hu64 (by rw [Array.size_replicate]; omega)
  rw [Array.size_replicate] at hfmt
  have HH0 := Lib.hid hH0
  have iu : (100 : Int) ≤ (u : Int) := by omega
  clear hH0 hal
  unfold Tab at htab
  go_enter Tryd.func63, Tryd.ntmps63
  go_wp2_with (first
    | (go_at_call 68; refine (Tryd.internal_strconv_numDigits u hu1 hu64 _ (Lib.tabIs_alloc htab _)).mono ?_; rintro e w' ⟨rfl, rfl⟩))
  go_at_call 69
  refine hfmt.mono ?_
  rintro e w' ⟨rfl, k, v', dk, rfl, hF⟩
  have hcv : (convert 96 9 (.slice (some ⟨w.heap.size, 0, none⟩) (Lib.nDigits u) 24)).run Tryd.prog ((putRow (fun (b : UInt8) => Value.int .u8 (b.toNat : Int)) (w.alloc (.cells Lib.zeros24 124)) w.heap.size 0 dk).drewN k) = .ok (.string ⟨(Lib.decDigits u).toArray⟩) ((putRow (fun (b : UInt8) => Value.int .u8 (b.toNat : Int)) (w.alloc (.cells Lib.zeros24 124)) w.heap.size 0 dk).drewN k) := by
    have h := run_convert_bytes_back (P := Tryd.prog) ((putRow (fun (b : UInt8) => Value.int .u8 (b.toNat : Int)) (w.alloc (.cells Lib.zeros24 124)) w.heap.size 0 dk).drewN k) 96 9 5 ⟨w.heap.size, 0, none⟩ 24 (Lib.decDigits u) Tryd.underlying96 Tryd.underlying5 Tryd.underlying9 (fun j hj => by
      rw [Lib.row_is_numeral hF j hj, Lib.add_plain, World.cell?_drewN]
      exact cell?_putRow (fun (b : UInt8) => Value.int .u8 (b.toNat : Int)) _ w.heap.size 0 _ dk HH0.out (by rw [hF.size, Array.size_replicate]) j (by rw [hF.size]; rw [Lib.decDigits_length] at hj; exact hj))
    rw [Lib.decDigits_length] at h
    exact h
  obtain ⟨os, eo⟩ := Lib.fin_at w (.cells Lib.zeros24 124) dk k 0
  have hb : Below w.heap.size w ((putRow (fun (b : UInt8) => Value.int .u8 (b.toNat : Int)) (w.alloc (.cells Lib.zeros24 124)) w.heap.size 0 dk).drewN k) := by rw [eo]; exact Lib.below_grow _ w (Nat.le_refl _) k os
  clear eo
  go_wp2
  go_ret
  exact ⟨rfl, hb⟩
theorem fmt_any (u : Nat) (hu : u < 18446744073709551616) (w : World) (htab : Tab w) : Calls Tryd.prog 54 #[.int .u64 u, .int .i64 10] w (SPost w (decDigits u)) := by
  have H : Hid (Calls Tryd.prog 63 #[.int .u64 u, .int .i64 10] w (SPost w (decDigits u))) := by
    rcases Nat.lt_or_ge u 100 with h | h
    · exact fmt_small u h w
    · exact fmt_big u h hu w htab
  go_enter Tryd.func54, Tryd.ntmps54
  go_wp2_with (go_at_call 63; (with_reducible refine H.out.mono ?_); rintro e w' ⟨rfl, hb⟩)
  go_ret
  exact ⟨rfl, hb⟩
/-- a file's name -/
def nm (kind : List UInt8) (u : Nat) : List UInt8 := (kind ++ [45]) ++ decDigits u
theorem name_any (kind : List UInt8) (hk : kind.length ≤ 1000) (u : Nat) (hu : u < 18446744073709551616) (w : World) (htab : Tab w) :
    Calls Tryd.prog 38 #[.string (bs kind), .int .u64 u] w (SPost w (nm kind u)) := by
  have H := Lib.hid (fmt_any u hu w htab)
  have z1 : (bs kind).size ≤ 1000 := by rw [bs_size]; exact hk
  have z2 : (bs (decDigits u)).size ≤ 20 := by rw [bs_size]; exact digits_len20 hu
  go_enter Tryd.func38, Tryd.ntmps38
  go_wp2_with (go_at_call 54; (with_reducible refine H.out.mono ?_); rintro e w' ⟨rfl, hb⟩)
  go_ret
  refine ⟨?_, hb⟩
  unfold nm
  rw [← bs_append, ← bs_append]
  rfl
/-- the sentinels of strconv lie -/
def Sent (w : World) (n : String) : Prop := ∃ tp p, w.var? Tryd.prog n = some #[.iface tp p]
theorem Sent.on {w w' : World} {n : String} (h : Sent w n) (hb : Below w.heap.size w w') : Sent w' n := by
  obtain ⟨tp, p, h⟩ := h
  refine ⟨tp, p, ?_⟩
  unfold World.var? at *
  cases hg : Program.globalNamed Tryd.prog n with
  | none => simp [hg] at h
  | some g =>
    simp only [hg, Option.bind_some] at h ⊢
    have hlt : g < w.heap.size := by
      rcases Nat.lt_or_ge g w.heap.size with h' | h'
      · exact h'
      · rw [Array.getElem?_eq_none h'] at h; simp at h
    rw [hb.block g hlt]
    exact h
structure Known (w : World) : Prop where
  tab : Tab w
  syn : Sent w "strconv.ErrSyntax"
  rng : Sent w "strconv.ErrRange"
theorem Known.on {w w' : World} (h : Known w) (hb : Below w.heap.size w w') : Known w' := ⟨h.tab.on hb, h.syn.on hb, h.rng.on hb⟩
/-- the number of a name -/
def number (kind name : List UInt8) : Option Nat :=
  if Lib.hasPrefix name (kind ++ [45]) then
    match Lib.parseUintB 64 (Lib.trimPrefix name (kind ++ [45])) with
    | .ok u => if nm kind u = name then some u else none
    | _ => none
  else none
def NuPost (w : World) (r : Option Nat) (e : Ending) (w' : World) : Prop := e = .returned (.tuple #[.int .u64 (r.getD 0 : Nat), .bool r.isSome]) ∧ Below w.heap.size w w'
theorem trim_len (s p : List UInt8) : (Lib.trimPrefix s p).length ≤ s.length := by
  unfold Lib.trimPrefix; split
  · rw [List.length_drop]; omega
  · exact Nat.le_refl _
theorem bs_inj {a b : List UInt8} (h : bs a = bs b) : a = b := by rw [← bs_toList a, ← bs_toList b, h]
theorem nm_eq (kind : List UInt8) (u : Nat) : bs kind ++ ⟨#[45]⟩ ++ bs (decDigits u) = bs (nm kind u) := by
  unfold nm; rw [← bs_append, ← bs_append]; rfl
end Go.Proofs.YtkocekogkpemiaaDoor.Ed
