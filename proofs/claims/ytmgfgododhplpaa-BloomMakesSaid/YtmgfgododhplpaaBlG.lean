/-
  The document's answer for filters as truths: the mathematics, and the Go text that tells a filter's bits, walked. Conditions: as each theorem states.
-/
import Derived.Test.YtmgfgododhplpaaBlF
namespace Go.Proofs.Ytmgfgododhplpaa.Bl
open Go.RowKit
open Crc (ret_int val_int)

def bits8 (c : UInt8) (k : Nat) : List Bool := (List.range k).map fun i => c.toNat.testBit i
def truths (F : List UInt8) : List Bool := F.flatMap fun c => bits8 c 8
theorem bits8_len (c : UInt8) (k : Nat) : (bits8 c k).length = k := by simp [bits8]
theorem bits8_succ (c : UInt8) (k : Nat) : bits8 c (k + 1) = bits8 c k ++ [c.toNat.testBit k] := by simp [bits8, List.range_succ]
theorem truths_nil : truths [] = [] := rfl
theorem truths_cons (c : UInt8) (F : List UInt8) : truths (c :: F) = bits8 c 8 ++ truths F := by simp [truths]
theorem truths_len : ∀ F : List UInt8, (truths F).length = F.length * 8
  | [] => rfl
  | c :: F => by rw [truths_cons, List.length_append, bits8_len, truths_len F, List.length_cons]; omega
theorem truths_snoc (F : List UInt8) (c : UInt8) : truths (F ++ [c]) = truths F ++ bits8 c 8 := by simp [truths]
theorem truths_at : ∀ (F : List UInt8) (p : Nat), p < F.length * 8 → (truths F)[p]? = some (has F p)
  | [], p, h => by simp at h
  | c :: F, p, h => by
    rw [truths_cons]
    by_cases hp : p < 8
    · rw [List.getElem?_append_left (by rw [bits8_len]; exact hp)]
      have e1 : p / 8 = 0 := by omega
      have e2 : p % 8 = p := by omega
      simp [bits8, hp, has, e1, e2]
    · rw [List.getElem?_append_right (by rw [bits8_len]; omega), bits8_len, truths_at F (p - 8) (by simp at h; omega)]
      unfold has
      have e1 : p / 8 = (p - 8) / 8 + 1 := by omega
      have e2 : p % 8 = (p - 8) % 8 := by omega
      rw [e1, e2]; rfl
def bCells (l : List Bool) : List Value := l.map Value.bool
theorem bCells_len (l : List Bool) : (bCells l).length = l.length := by simp [bCells]
theorem bCells_append (a b : List Bool) : bCells (a ++ b) = bCells a ++ bCells b := by simp [bCells]
theorem infoBool : (Try.prog.info? 4).map (fun i => (i.zero, i.size, i.bytes)) = some (some (.bool false), 1, 1) := by kernel_rfl
theorem owns_on {w wr w1 : World} {t : TypeId} {s : Nat} {v : Value} {n : Nat} {xs : List Value} (h : wr.ownsRow w.heap.size t s v n xs) (b : Below wr.heap.size wr w1) : w1.ownsRow w.heap.size t s v n xs :=
  h.kept (row := none) ⟨b.os, b.tape, b.output, b.size, fun k hk _ => b.block k hk⟩ (by cases v.ownBlock <;> simp)
theorem news_one (w1 : World) (v : Value) (t : TypeId) : ∀ j u, [v][j]? = some u → (w1.alloc (.cells #[v] t)).cell? ((⟨w1.heap.size, 0, none⟩ : Addr).add j) = some u := by
  intro j u hj
  match j, hj with
  | 0, hj => simp at hj; subst hj; simp [Addr.add]
theorem bit_mod (c k : Nat) : (((c / 2 ^ k : Nat) : Int) % 2 == 1) = c.testBit k := by
  rw [Nat.testBit_eq_decide_div_mod_eq]
  generalize c / 2 ^ k = n
  rw [Bool.eq_iff_iff, decide_eq_true_iff, beq_iff_eq]
  omega
theorem half (c k : Nat) : ((c / 2 ^ k : Nat) : Int) / 2 = ((c / 2 ^ (k + 1) : Nat) : Int) := by
  have : c / 2 ^ (k + 1) = c / 2 ^ k / 2 := by rw [Nat.pow_succ, Nat.div_div_eq_div_mul]
  rw [this]; omega
def TrJ (w : World) (F : List UInt8) (o i : Value) (wr : World) : Prop :=
  ∃ j : Nat, j ≤ F.length ∧ i = .int .i64 j ∧ wr.ownsRow w.heap.size 4 1 o (j * 8) (bCells (truths (F.take j))) ∧ Below w.heap.size w wr
def TrK (w : World) (T : List Bool) (m : Nat) (c : UInt8) (o n i : Value) (wr : World) : Prop :=
  ∃ k : Nat, k ≤ 8 ∧ i = .int .i64 k ∧ n = .int .i64 ((c.toNat / 2 ^ k : Nat) : Int) ∧ wr.ownsRow w.heap.size 4 1 o (m + k) (bCells (T ++ bits8 c k)) ∧ Below w.heap.size w wr
set_option maxRecDepth 100000 in
set_option maxHeartbeats 1000000 in
theorem truths_any (F : ByteArray) (hF : F.size ≤ 100000) (w : World) :
    Calls Try.prog 8 #[.string F] w fun e w' => (∃ v, e = .returned v ∧ w'.ownsRow w.heap.size 4 1 v (F.size * 8) (bCells (truths F.data.toList))) ∧ Below w.heap.size w w' := by
  obtain ⟨i0, hi, hz0, hz1, hz2⟩ := info_parts infoBool
  have HI := Lib.hid (And.intro hi (And.intro hz0 (And.intro hz1 hz2)))
  clear hi hz0 hz1 hz2
  go_enter Try.func8, Try.ntmps8
  go_wp2
  go_loopw [3, 4] (fun o i wr => TrJ w F.data.toList o i wr) (fun _ i _ => F.size - (intOf i).toNat)
  case atStart => exact ⟨0, by omega, rfl, World.ownsRow_nil _ _ _ _, Below.refl _ _⟩
  case round =>
    obtain ⟨j, hj, rfl, hown, hb⟩ := hrel
    have hjl : F.data.toList.length = F.size := by simp
    rw [hjl] at hj
    have HO := Lib.hid hown
    have HB := Lib.hid hb
    clear hown hb hjl
    by_cases hlt : j < F.size
    · have hts := Lib.hid (Crc.take_snoc F j hlt)
      generalize hce : F[j] = c at *
      have hc := c.toNat_lt
      go_wp2
      go_loopw [3, 5, 6] (fun o n i wr => TrK w (truths (F.data.toList.take j)) (j * 8) c o n i wr) (fun _ _ i _ => 8 - (intOf i).toNat)
      case atStart => exact ⟨0, by omega, rfl, by simp, by simpa [bits8] using HO.out, HB.out⟩
      case round =>
        obtain ⟨k, hk, rfl, rfl, hown, hb⟩ := hrel
        have HO2 := Lib.hid hown
        have HB2 := Lib.hid hb
        have hz := hb.size
        clear hown hb
        by_cases h8 : k < 8
        · have hbm := bit_mod c.toNat k
          have hhf := half c.toNat k
          have hcl : c.toNat / 2 ^ k ≤ 255 := Nat.le_trans (Nat.div_le_self _ _) (by omega)
          have hb8 := Lib.hid (bits8_succ c k)
          have HHF := Lib.hid hhf
          generalize c.toNat.testBit k = b at *
          generalize c.toNat / 2 ^ k = n at *
          clear hhf
          go_wp2_with (first
            | (at_builtin
               refine wpList_append_lies _ rfl _ _ 25 rfl w.heap.size 4 i0 _ 1 1 Try.underlying25 HI.out.1 HI.out.2.1 HI.out.2.2.1 HI.out.2.2.2 rfl (by decide) u3 (j * 8 + k) (bCells (truths (F.data.toList.take j) ++ bits8 c k)) rfl (HO2.out.alloc _) ⟨wr.heap.size, 0, none⟩ 1 1 [.bool b] rfl rfl (news_one wr _ _) (by simp [Value.oneCell']) (by omega) (by unfold maxLen; omega) (by omega) (by simp; omega) (wr.heap.size + 1) (by simp) ?_
               intro g cap w4 hown4 hgrow4 hwhere hlt4
               have HE := Lib.hid (And.intro hown4 hgrow4)
               clear hown4 hgrow4 hwhere hlt4))
          go_roundw
          case rel =>
            refine ⟨k + 1, by omega, by go_num, by rw [HHF.out], ?_, below_own2 (HB2.out.alloc hz _) (HO2.out.alloc _) HE.out.2⟩
            rw [hb8.out, ← List.append_assoc, bCells_append]
            exact HE.out.1
          case measure => simp [intOf]; omega
        · obtain rfl : k = 8 := by omega
          go_wp2
          go_roundw
          case rel =>
            refine ⟨j + 1, by rw [show F.data.toList.length = F.size by simp]; omega, by go_num, ?_, HB2.out⟩
            rw [hts.out, truths_snoc, show (j + 1) * 8 = j * 8 + 8 by omega]
            exact HO2.out
          case measure => simp [intOf]; omega
    · obtain rfl : j = F.size := by omega
      go_wp2
      go_ret
      refine ⟨⟨_, rfl, ?_⟩, HB.out⟩
      have := HO.out
      rw [Crc.take_all F _ (Nat.le_refl _)] at this
      exact this
end Go.Proofs.Ytmgfgododhplpaa.Bl
