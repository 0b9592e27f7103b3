/-
  The Go text of batches, walked: a strings.Builder in memory, a row of changes, known, check, Check. Conditions: as each theorem states.
-/
import Derived.Test.YtbolklpdbckefaaBaMath
import Derived.Test.YtbolklpdbckefaaBuB
namespace Go.Proofs.Ytbolklpdbckefaa.Ba
open Go.RowKit
open Go.Proofs.Ytbolklpdbckefaa
open Vi

/-- A strings.Builder in memory. -/
def Bd (B b : Nat) (l : List UInt8) (w : World) : Prop := Lib.IsBuilderF 42 5 B b (Lib.byteCells l) w
theorem bd_fresh (w : World) : Bd w.heap.size w.heap.size [] (w.alloc (.cells #[.pointer none, .slice none 0 0] 42)) := Lib.IsBuilderF.of (Lib.fresh_isBuilder _ _ w)
theorem at_below {T e : TypeId} {B b : Nat} {p : Value} {l : List Value} {w w' : World} (h : Lib.BuilderAtF T e B b p l w) (hb : Below w.heap.size w w') : Lib.BuilderAtF T e B b p l w' := by
  have hlt := h.lt
  obtain ⟨hB, v, hv, hown, hne⟩ := h
  exact ⟨hB, v, (hb.block b hlt).trans hv, hown.kept (row := none) ⟨hb.os, hb.tape, hb.output, hb.size, fun k hk _ => hb.block k hk⟩ (Classical.em _), hne⟩
theorem bd_below {B b : Nat} {l : List UInt8} {w w' : World} (h : Bd B b l w) (hb : Below w.heap.size w w') : Bd B b l w' :=
  h.elim (fun x => .inl (at_below x hb)) (fun x => .inr (at_below x hb))
theorem bd_lt {B b : Nat} {l : List UInt8} {w : World} (h : Bd B b l w) : B ≤ b ∧ b < w.heap.size :=
  h.elim (fun x => ⟨x.1, x.lt⟩) (fun x => ⟨x.1, x.lt⟩)
/-- what is no row of bytes, and not the builder, is kept -/
def Kept (b : Nat) (w w' : World) : Prop := Lib.OthersKept 5 (some b) w w'
theorem bd_write {B b : Nat} {l s : List UInt8} {w : World} (h : Bd B b l w) (hlen : l.length + s.length ≤ 140737488355328) :
    Calls Try.prog 11 #[.pointer (some ⟨b, 0, none⟩), .string (bs s)] w fun e w' => e = .returned (.tuple #[.int .i64 (bs s).size, .nilIface]) ∧ Bd B b (l ++ s) w' ∧ Below B w w' ∧ Kept b w w' := by
  refine (Any.Builder_WriteString_k Try.lays166 Try.Builder_Extra_166 B b _ (bs s) w h (by rw [Lib.byteCells_length, bs_size]; exact hlen) (by have := bd_lt h; omega)).mono ?_
  rintro e w' ⟨he, hb, hw, hk⟩
  refine ⟨he, .inr ?_, hw, hk⟩
  have e1 : Lib.byteCells (l ++ s) = Lib.byteCells l ++ Lib.strCells (bs s) := by rw [Lib.strCells_eq, bs_toList]; simp [Lib.byteCells]
  rw [e1]; exact hb
theorem bd_string {B b : Nat} {l : List UInt8} {w : World} (h : Bd B b l w) :
    Calls Try.prog 16 #[.pointer (some ⟨b, 0, none⟩)] w fun e w' => e = .returned (.string (bs l)) ∧ Below B w w' :=
  (Try.Builder_String_any_k B b l w h (by have := bd_lt h; omega)).mono fun _ _ ⟨h1, _, h2, _⟩ => ⟨h1, h2⟩
theorem bd_byte {B b : Nat} {l : List UInt8} {w : World} {c : Int} {d : UInt8} (hc : c = d.toNat) (h : Bd B b l w) (hlen : l.length + 1 ≤ 140737488355328) :
    Calls Try.prog 14 #[.pointer (some ⟨b, 0, none⟩), .int .u8 c] w fun e w' => e = .returned .nilIface ∧ Bd B b (l ++ [d]) w' ∧ Below B w w' ∧ Kept b w w' := by
  refine (Any.Builder_WriteByte_k Try.lays167 Try.Builder_Extra_167 B b _ c w h (by rw [Lib.byteCells_length]; exact hlen) (by have := bd_lt h; omega)).mono ?_
  rintro e w' ⟨he, hb, hw, hk⟩
  refine ⟨he, .inr ?_, hw, hk⟩
  have e1 : Lib.byteCells (l ++ [d]) = Lib.byteCells l ++ [.int .u8 c] := by rw [hc]; simp [Lib.byteCells]
  rw [e1]; exact hb
theorem kept_cells {b k : Nat} {w w' : World} {c : Array Value} (h : Kept b w w') (hk : w.heap[k]? = some (.cells c 35 (0, 0))) (hne : k ≠ b) : w'.heap[k]? = some (.cells c 35 (0, 0)) :=
  h k _ hk (fun e => hne (by injection e)) (fun c2 fz e => by injection e with _ e2; exact absurd e2 (by decide))
theorem kept_below {b : Nat} {w w' : World} (h : Below w.heap.size w w') : Kept b w w' := fun k o hk _ _ => (h.block k (Array.getElem?_eq_some_iff.1 hk).1).trans hk
theorem block_add (a : Addr) (n : Nat) : (a.add n).block = a.block := by unfold Addr.add; split <;> rfl
theorem cell_lt {w : World} {p : Addr} {v : Value} (h : w.cell? p = some v) : p.block < w.heap.size := by
  rcases Nat.lt_or_ge p.block w.heap.size with h' | h'
  · exact h'
  · unfold World.cell? at h
    rw [Array.getElem?_eq_none h'] at h
    simp at h

/-! a row of changes in memory -/
def Chg.val (c : Chg) : Value := .agg #[.int .i64 c.kind, .string c.key, .string c.value]
def Chg.small (c : Chg) : Prop := c.key.size ≤ 9223372036854775807 ∧ c.value.size ≤ 9223372036854775807
def CCells (W : World) (q : Addr) (p : Chg) : Prop := W.cell? q = some (.int .i64 p.kind) ∧ W.cell? ⟨q.block, q.off + 1, none⟩ = some (.string p.key) ∧ W.cell? ⟨q.block, q.off + 2, none⟩ = some (.string p.value)
def CRow (W : World) (ao : Option Addr) (l : List Chg) : Prop := 0 < l.length → ∃ a, ao = some a ∧ a.block < W.heap.size ∧ ∀ i (hi : i < l.length), CCells W (a.add (i * 3)) l[i]
theorem CRow.on {W W' : World} {ao : Option Addr} {l : List Chg} (h : CRow W ao l) (hb : Below W.heap.size W W') : CRow W' ao l := fun h0 => by
  obtain ⟨a, rfl, h1, h2⟩ := h h0
  have := hb.size
  refine ⟨a, rfl, by omega, fun i hi => ?_⟩
  obtain ⟨c0, c1, c2⟩ := h2 i hi
  have hbl : (a.add (i * 3)).block < W.heap.size := by rw [block_add]; exact h1
  exact ⟨(hb.cell (p := a.add (i * 3)) hbl).trans c0, (hb.cell (p := ⟨(a.add (i * 3)).block, (a.add (i * 3)).off + 1, none⟩) hbl).trans c1, (hb.cell (p := ⟨(a.add (i * 3)).block, (a.add (i * 3)).off + 2, none⟩) hbl).trans c2⟩
theorem known_no {k : Int} (h : ¬ (k = 1 ∨ k = 2)) (w : World) :
    Calls Try.prog 32 #[.int .i64 k] w fun e w' => e = .returned (.bool false) ∧ w = w' := by
  have h1 : (k == 1) = false := by simp; omega
  have h2 : (k == 2) = false := by simp; omega
  clear h
  go_enter Try.func32, Try.ntmps32
  go_wp2
  go_ret
  exact ⟨rfl, rfl⟩
theorem known_yes {k : Int} (h : k = 1 ∨ k = 2) (w : World) :
    Calls Try.prog 32 #[.int .i64 k] w fun e w' => e = .returned (.bool true) ∧ w = w' := by
  rcases h with rfl | rfl
  all_goals
    go_enter Try.func32, Try.ntmps32
    go_wp2
    go_ret
    exact ⟨rfl, rfl⟩
theorem str_nil {s : ByteArray} (h : ¬ s.size = 0) : s.toList.isEmpty = false ∧ ¬ s.toList = [] := by
  have e : ¬ s.toList = [] := fun e => h (by rw [Lib.toList_data] at e; rw [← size_len, e]; rfl)
  exact ⟨by simpa using e, e⟩
def CkPost (w : World) (v : Int) (e : Ending) (w' : World) : Prop := e = .returned (.int .i64 v) ∧ Below w.heap.size w w'
theorem check_any (c : Chg) (hs : c.small) (w : World) : Calls Try.prog 25 #[c.val] w (CkPost w (chk1 c)) := by
  obtain ⟨k, key, value⟩ := c
  obtain ⟨h1, h2⟩ := hs
  simp only at h1 h2
  unfold Chg.val
  by_cases hk : k = 1 ∨ k = 2
  · have HK := Lib.hid (known_yes hk)
    have n1 : ¬ ¬ (k = 1 ∨ k = 2) := not_not_intro hk
    by_cases c1 : key.size = 0
    · rw [show chk1 ⟨k, key, value⟩ = 19 by unfold chk1; rw [if_neg n1, if_pos (.inl c1)]]
      obtain rfl := empty_of c1
      clear hk n1
      go_enter Try.func25, Try.ntmps25
      go_wp2_with (go_at_call 32; refine (HK.out _).mono ?_; rintro e w' ⟨rfl, rfl⟩)
      go_ret
      exact ⟨rfl, (Below.refl _ _).alloc (Nat.le_refl _) _⟩
    · obtain ⟨hn, hn'⟩ := str_nil c1
      by_cases c2 : 200 < key.size
      · rw [show chk1 ⟨k, key, value⟩ = 19 by unfold chk1; rw [if_neg n1, if_pos (.inr c2)]]
        clear hk n1
        go_enter Try.func25, Try.ntmps25
        go_wp2_with (go_at_call 32; refine (HK.out _).mono ?_; rintro e w' ⟨rfl, rfl⟩)
        go_ret
        exact ⟨rfl, (Below.refl _ _).alloc (Nat.le_refl _) _⟩
      · have n2 : ¬ (key.size = 0 ∨ 200 < key.size) := by omega
        by_cases c3 : 4096 < value.size
        · rw [show chk1 ⟨k, key, value⟩ = 5 by unfold chk1; rw [if_neg n1, if_neg n2, if_pos (.inl c3)]]
          clear hk n1 n2
          go_enter Try.func25, Try.ntmps25
          go_wp2_with (go_at_call 32; refine (HK.out _).mono ?_; rintro e w' ⟨rfl, rfl⟩)
          go_ret
          exact ⟨rfl, (Below.refl _ _).alloc (Nat.le_refl _) _⟩
        · by_cases c4 : k = 2
          · subst c4
            by_cases c5 : value.size = 0
            · rw [show chk1 ⟨2, key, value⟩ = 0 by unfold chk1; rw [if_neg n1, if_neg n2, if_neg (show ¬ (4096 < value.size ∨ ((2 : Int) = 2 ∧ value.size ≠ 0)) by omega)]]
              obtain rfl := empty_of c5
              clear hk n1 n2
              go_enter Try.func25, Try.ntmps25
              go_wp2_with (go_at_call 32; refine (HK.out _).mono ?_; rintro e w' ⟨rfl, rfl⟩)
              go_ret
              exact ⟨rfl, (Below.refl _ _).alloc (Nat.le_refl _) _⟩
            · rw [show chk1 ⟨2, key, value⟩ = 5 by unfold chk1; rw [if_neg n1, if_neg n2, if_pos (.inr ⟨rfl, c5⟩)]]
              obtain ⟨hn2, hn3⟩ := str_nil c5
              clear hk n1 n2
              go_enter Try.func25, Try.ntmps25
              go_wp2_with (go_at_call 32; refine (HK.out _).mono ?_; rintro e w' ⟨rfl, rfl⟩)
              go_ret
              exact ⟨rfl, (Below.refl _ _).alloc (Nat.le_refl _) _⟩
          · rw [show chk1 ⟨k, key, value⟩ = 0 by unfold chk1; rw [if_neg n1, if_neg n2, if_neg (show ¬ (4096 < value.size ∨ (k = 2 ∧ value.size ≠ 0)) by omega)]]
            clear hk n1 n2
            have c4' : (k == 2) = false := by simpa using c4
            go_enter Try.func25, Try.ntmps25
            go_wp2_with (go_at_call 32; refine (HK.out _).mono ?_; rintro e w' ⟨rfl, rfl⟩)
            go_ret
            exact ⟨rfl, (Below.refl _ _).alloc (Nat.le_refl _) _⟩
  · rw [show chk1 ⟨k, key, value⟩ = 11 by unfold chk1; rw [if_pos hk]]
    have HK := Lib.hid (known_no hk)
    clear hk
    go_enter Try.func25, Try.ntmps25
    go_wp2_with (go_at_call 32; refine (HK.out _).mono ?_; rintro e w' ⟨rfl, rfl⟩)
    go_ret
    exact ⟨rfl, (Below.refl _ _).alloc (Nat.le_refl _) _⟩
end Go.Proofs.Ytbolklpdbckefaa.Ba
