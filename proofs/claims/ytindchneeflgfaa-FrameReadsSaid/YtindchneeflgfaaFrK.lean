/-
  The Go text of the laws that lays records one behind the other, walked. Conditions: as each theorem states.
-/
import Derived.Test.YtindchneeflgfaaFrJ
import Derived.Test.YtindchneeflgfaaFrC
import Derived.Deep.AppendLies
namespace Go.Proofs.Ytindchneeflgfaa
open Go.RowKit
open Vi

/-- A row of texts in memory. -/
def SRow (w : World) (A : Option Addr) (l : List (List UInt8)) : Prop :=
  0 < l.length → ∃ a, A = some a ∧ a.block < w.heap.size ∧ ∀ i (h : i < l.length), w.cell? (a.add i) = some (.string (bs l[i]))
theorem block_add (a : Addr) (n : Nat) : (a.add n).block = a.block := by unfold Addr.add; split <;> rfl
theorem SRow.below {B : Nat} {w w' : World} {A : Option Addr} {l : List (List UInt8)} (h : SRow w A l) (hb : Below B w w') (hB : w.heap.size ≤ B) : SRow w' A l := fun h0 => by
  obtain ⟨a, e, hlt, hc⟩ := h h0
  exact ⟨a, e, Nat.lt_of_lt_of_le hlt hb.size, fun i hi => (hb.cell (p := a.add i) (by rw [block_add]; omega)).trans (hc i hi)⟩
theorem logOf_snoc : ∀ (l : List (List UInt8)) (P s : List UInt8), logOf P (l ++ [s]) = logOf P l ++ lay (logOf P l).length s
  | [], P, s => rfl
  | x :: l, P, s => by rw [List.cons_append, logOf, logOf, logOf_snoc l]
theorem endsOf_snoc : ∀ (l : List (List UInt8)) (P s : List UInt8), endsOf P (l ++ [s]) = endsOf P l ++ [(logOf P l).length + (lay (logOf P l).length s).length]
  | [], P, s => by simp [endsOf, logOf]
  | x :: l, P, s => by rw [List.cons_append, endsOf, endsOf, logOf, endsOf_snoc l]; rfl
def eCells (es : List Nat) : List Value := es.map fun (e : Nat) => Value.int .i64 (e : Int)
theorem eCells_snoc (es : List Nat) (e : Nat) : eCells (es ++ [e]) = eCells es ++ [.int .i64 (e : Int)] := by simp [eCells]
theorem logOf_len : ∀ (l : List (List UInt8)) (P : List UInt8), (∀ s ∈ l, s.length ≤ 2000) → (logOf P l).length ≤ P.length + 2100 * l.length
  | [], P, _ => by simp [logOf]
  | s :: l, P, h => by
    have hs := h s (by simp)
    have ih := logOf_len l (P ++ lay P.length s) (fun x hx => h x (by simp [hx]))
    have hg := gapOf_le P.length
    rw [List.length_append, lay_len] at ih
    rw [logOf, List.length_cons]
    omega
theorem infoInt : (Try.prog.info? 3).map (fun i => (i.zero, i.size, i.bytes)) = some (some (.int .i64 0), 1, 8) := by kernel_rfl
theorem news_one (w1 : World) (v : Value) (t : TypeId) : ∀ j u, [v][j]? = some u → (w1.alloc (.cells #[v] t)).cell? ((⟨w1.heap.size, 0, none⟩ : Addr).add j) = some u := by
  intro j u hj
  match j, hj with
  | 0, hj => simp at hj; subst hj; simp [Addr.add]
def LdJ (w : World) (l : List (List UInt8)) (lg en i : Value) (wr : World) : Prop :=
  ∃ j : Nat, j ≤ l.length ∧ lg = .string (bs (logOf [] (l.take j))) ∧ i = .int .i64 j ∧ wr.ownsRow w.heap.size 3 1 en j (eCells (endsOf [] (l.take j))) ∧ Below w.heap.size w wr
theorem owns_on {w wr w1 : World} {t : TypeId} {s : Nat} {v : Value} {n : Nat} {xs : List Value} (h : wr.ownsRow w.heap.size t s v n xs) (b : Below wr.heap.size wr w1) : w1.ownsRow w.heap.size t s v n xs :=
  h.kept (row := none) ⟨b.os, b.tape, b.output, b.size, fun k hk _ => b.block k hk⟩ (by cases v.ownBlock <;> simp)
theorem below_own {w wr w4 : World} {t : TypeId} {s : Nat} {v : Value} {n : Nat} {xs : List Value} (hb : Below w.heap.size w wr) (h : wr.ownsRow w.heap.size t s v n xs) (hg : wr.grownBy w4 v.ownBlock) : Below w.heap.size w w4 :=
  hb.trans ⟨hg.os, hg.tape, hg.output, hg.size, fun k hk => hg.block k (Nat.lt_of_lt_of_le hk hb.size) fun e => by have := (h.lt k e.symm).1; omega⟩
set_option maxHeartbeats 1000000 in
theorem laid_any {w : World} (A : Option Addr) (c : Nat) (l : List (List UInt8)) (hl : l.length ≤ 20) (hs : ∀ s ∈ l, s.length ≤ 2000) (ha : SRow w A l) :
    Calls Try.prog 13 #[.slice A l.length c] w fun e w' => (∃ v, e = .returned (.tuple #[.string (bs (logOf [] l)), v]) ∧ w'.ownsRow w.heap.size 3 1 v l.length (eCells (endsOf [] l))) ∧ Below w.heap.size w w' := by
  have HA := Lib.hid ha
  have HS := Lib.hid hs
  clear ha hs
  obtain ⟨i0, hi, hz0, hz1, hz2⟩ := info_parts infoInt
  have HI := Lib.hid (And.intro hi (And.intro hz0 (And.intro hz1 hz2)))
  clear hi hz0 hz1 hz2
  have hbz := bs_size
  have hba := bs_append
  go_enter Try.func13, Try.ntmps13
  go_wp2
  go_loopw [4, 5, 10] (LdJ w l) (fun _ _ i _ => l.length - (intOf i).toNat)
  case atStart => exact ⟨0, by omega, rfl, rfl, World.ownsRow_nil _ _ _ _, Below.refl _ _⟩
  case round =>
    obtain ⟨j, hj, rfl, rfl, hown, hb⟩ := hrel
    have HO := Lib.hid hown
    have HB := Lib.hid hb
    clear hown
    by_cases hlt : j < l.length
    · obtain ⟨a, rfl, hab, hca⟩ := HA.out (by omega)
      have x0 : wr.cell? (a.add j) = some (.string (bs l[j])) := (hb.cell (p := a.add j) (by rw [block_add]; exact hab)).trans (hca j hlt)
      have hsj := HS.out l[j] (List.getElem_mem hlt)
      have hG := logOf_len (l.take j) [] (fun s hx => HS.out s (List.mem_of_mem_take hx))
      have hlog := Lib.hid (logOf_snoc (l.take j) [] l[j])
      have hend := Lib.hid (endsOf_snoc (l.take j) [] l[j])
      have htk := Lib.hid (List.take_succ_eq_append_getElem hlt)
      generalize l[j] = s at x0 hsj hlog hend htk
      generalize hGe : logOf [] (l.take j) = G at *
      have hG2 : G.length ≤ 42000 := by rw [List.length_take] at hG; simp at hG; omega
      have hy := lay_len G.length s
      have hg := gapOf_le G.length
      have hyl : (lay G.length s).length ≤ 3000 := by rw [hy]; omega
      have HY := Lib.hid (fun W => flay_any (G.length : Int) (by omega) (by omega) s (by omega) W)
      rw [show ((G.length : Int)).toNat = G.length by omega] at HY
      generalize hYe : lay G.length s = Y at *
      have hsz := HB.out.size
      clear hca hb hy hG
      go_wp2_with (first
        | (go_at_call 7; (with_reducible refine (HY.out _).mono ?_); rintro e w3 ⟨rfl, hw3⟩; have HO3 := Lib.hid (owns_on HO.out hw3); have HB3 := Lib.hid (HB.out.trans (hw3.mono HB.out.size)); have hsz3 := HB3.out.size; clear hw3)
        | (at_builtin
           refine wpList_append_lies _ rfl _ _ 36 rfl w.heap.size 3 i0 _ 1 8 Try.underlying36 HI.out.1 HI.out.2.1 HI.out.2.2.1 HI.out.2.2.2 rfl (by decide) u5 j (eCells (endsOf [] (l.take j))) rfl (HO3.out.alloc _) ⟨w3.heap.size, 0, none⟩ 1 1 [.int .i64 ((G.length : Int) + (Y.length : Int))] rfl rfl (news_one w3 _ _) (by simp [Value.oneCell']) (by omega) (by unfold maxLen; omega) (by omega) (by simp; omega) (w3.heap.size + 1) (by simp) ?_
           intro g cap w4 hown4 hgrow4 hwhere hlt4
           have HE := Lib.hid (And.intro hown4 hgrow4)
           clear hown4 hgrow4 hwhere hlt4))
      go_roundw
      case rel =>
        refine ⟨j + 1, by omega, by rw [htk.out, hlog.out], by go_num, ?_, below_own (HB3.out.alloc hsz3 _) (HO3.out.alloc _) HE.out.2⟩
        have e1 : ((G.length + Y.length : Nat) : Int) = (G.length : Int) + (Y.length : Int) := by omega
        rw [htk.out, hend.out, eCells_snoc, e1]
        exact HE.out.1
      case measure => simp [intOf]; omega
    · go_wp2
      go_ret2
      obtain rfl : j = l.length := by omega
      have e := HO.out
      rw [List.take_length] at e ⊢
      exact ⟨⟨_, rfl, e⟩, hb⟩
end Go.Proofs.Ytindchneeflgfaa
