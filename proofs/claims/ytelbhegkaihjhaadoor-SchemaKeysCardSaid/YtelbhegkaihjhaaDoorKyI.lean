/-
  The Go text that reads a text out of a key, walked. Conditions: as each theorem states.
-/
import Derived.Test.YtelbhegkaihjhaaDoorKyH
namespace Go.Proofs.YtelbhegkaihjhaaDoor
open Go.RowKit
open Vi

/-- what first and firstText answer -/
def fval (o : Option (KPart × List UInt8)) : Value := match o with
  | some x => .tuple #[.agg #[.int .u8 x.1.sort, .int .i64 x.1.n, .int .u64 x.1.u, .string x.1.s], .string (bs x.2), .bool true]
  | none => .tuple #[.agg #[.int .u8 0, .int .i64 0, .int .u64 0, .string ⟨#[]⟩], .string (bs []), .bool false]
theorem scut_any {w : World} (k : List UInt8) (hk : k.length ≤ 1000) (m : Int) (hm : w.cell? ⟨0, 0, none⟩ = some (.int .i64 m)) :
    Calls Tryd.prog 55 #[.string (bs k), .string ⟨#[0]⟩] w fun e w' => (∃ b, e = .returned (.tuple #[.string (bs (cut0 k).1), .string (bs (cut0 k).2), .bool b])) ∧ ∃ n, w' = w.drewN n :=
  (Tryd.strings_Cut (bs k) ⟨#[0]⟩ m w (by rw [bs_size]; omega) hm).mono fun _ _ ⟨h1, h2⟩ => ⟨⟨_, h1⟩, h2⟩
theorem pre_cut (c : UInt8) (l : List UInt8) (w : World) :
    Calls Tryd.prog 56 #[.string (bs l), .string ⟨#[c]⟩] w fun e w' => e = .returned (.tuple #[.string (bs (Lib.trimPrefix l [c])), .bool (Lib.hasPrefix l [c])]) ∧ w = w' :=
  (Tryd.strings_CutPrefix (bs l) ⟨#[c]⟩ w).mono fun _ _ ⟨h1, h2⟩ => ⟨h1, h2.symm⟩
theorem hp_cons (c : UInt8) (r : List UInt8) : Lib.hasPrefix (c :: r) [c] = true := by simp [Lib.hasPrefix, List.isPrefixOf]
theorem tp_cons (c : UInt8) (r : List UInt8) : Lib.trimPrefix (c :: r) [c] = r := by unfold Lib.trimPrefix; rw [hp_cons, if_pos rfl]; rfl
theorem hp_ne {c d : UInt8} (h : ¬ d = c) (r : List UInt8) : Lib.hasPrefix (d :: r) [c] = false := by simp [Lib.hasPrefix, List.isPrefixOf]; exact fun e => h e.symm
theorem hp_nil (c : UInt8) : Lib.hasPrefix [] [c] = false := rfl
def zeroPart : Array Value := #[.int .u8 0, .int .i64 0, .int .u64 0, .string ⟨#[]⟩]
def FtJ (K : List UInt8) (w : World) (k s : Value) (wr : World) : Prop :=
  ∃ (a l : List UInt8) (n : Nat), ahead a (unesc l) = unesc K ∧ a.length + l.length ≤ K.length ∧ k = .string (bs l) ∧ s = .string (bs a) ∧ wr = (w.alloc (.cells #[.int .u8 0, .int .i64 0, .int .u64 0, .string ⟨#[]⟩] 49)).drewN n
def strLen : Value → Nat
  | .string s => s.size
  | _ => 0
theorem hold_row (w : World) (n : Nat) {w2 : World} (hb : Below ((w.alloc (.cells #[.int .u8 0, .int .i64 0, .int .u64 0, .string ⟨#[]⟩] 49)).drewN n).heap.size ((w.alloc (.cells #[.int .u8 0, .int .i64 0, .int .u64 0, .string ⟨#[]⟩] 49)).drewN n) w2) :
    w2.heap[w.heap.size]? = some (.cells #[.int .u8 0, .int .i64 0, .int .u64 0, .string ⟨#[]⟩] 49 (0, 0)) :=
  (hb.block w.heap.size (by show _ < (w.alloc _).heap.size; simp)).trans (heap_alloc_new w _)
theorem ret_part {f : Func} (hf : f.results = #[.cell 2 49, .tmp 3, .tmp 4]) {R : Ending → World → Prop} {a : Act} {wf : World} {k : Nat} {n : Int} {u : Nat} {s r : ByteArray} {b : Bool} {g : Nat}
    (h2 : a.tmps.getD 2 undef = .pointer (some ⟨g, 0, none⟩)) (h3 : a.tmps.getD 3 undef = .string r) (h4 : a.tmps.getD 4 undef = .bool b) (hd : a.defers = [])
    (hrow : wf.heap[g]? = some (.cells #[.int .u8 k, .int .i64 n, .int .u64 u, .string s] 49 (0, 0)))
    (hR : R (.returned (.tuple #[.agg #[.int .u8 k, .int .i64 n, .int .u64 u, .string s], .string r, .bool b])) wf) : bodyPost Tryd.prog f R .ret a wf := by
  have k0 := cell_in hrow 0 _ rfl
  have k1 := cell_in hrow 1 _ rfl
  have k2 := cell_in hrow 2 _ rfl
  have k3 := cell_in hrow 3 _ rfl
  have g2 : a.tmps[2]?.getD undef = .pointer (some ⟨g, 0, none⟩) := by simpa using h2
  have g3 : a.tmps[3]?.getD undef = .string r := by simpa using h3
  have g4 : a.tmps[4]?.getD undef = .bool b := by simpa using h4
  exact bodyPost_ret (v := .tuple #[.agg #[.int .u8 k, .int .i64 n, .int .u64 u, .string s], .string r, .bool b]) (by simp [results, hf, g2, g3, g4, go_sem, k0, k1, k2, k3]) hd hR
theorem row_draw (w : World) (n : Nat) : ((w.alloc (.cells #[.int .u8 0, .int .i64 0, .int .u64 0, .string ⟨#[]⟩] 49)).drewN n).heap[w.heap.size]? = some (.cells #[.int .u8 0, .int .i64 0, .int .u64 0, .string ⟨#[]⟩] 49 (0, 0)) := heap_alloc_new w _
theorem below_draw (w : World) (n : Nat) (o : Obj) : Below w.heap.size w ((w.alloc o).drewN n) := by
  have h := (Below.refl w.heap.size w).alloc (Nat.le_refl _) o
  exact ⟨h.os, h.tape, h.output, h.size, h.block⟩
theorem below_sets {w wr : World} {g : Nat} {v0 v1 v2 v3 : Value} (h : Below g w wr) : Below g w ((((wr.setCell ⟨g, 0, none⟩ v0).setCell ⟨g, 1, none⟩ v1).setCell ⟨g, 2, none⟩ v2).setCell ⟨g, 3, none⟩ v3) :=
  (((h.setCell (Nat.le_refl _) _).setCell (Nat.le_refl _) _).setCell (Nat.le_refl _) _).setCell (Nat.le_refl _) _
theorem row_sets {wr : World} {g : Nat} {c : Array Value} (h : wr.heap[g]? = some (.cells c 49 (0, 0))) (hc : c.size = 4) (v0 v1 v2 v3 : Value) :
    ((((wr.setCell ⟨g, 0, none⟩ v0).setCell ⟨g, 1, none⟩ v1).setCell ⟨g, 2, none⟩ v2).setCell ⟨g, 3, none⟩ v3).heap[g]? = some (.cells #[v0, v1, v2, v3] 49 (0, 0)) := by
  rw [heap_set (heap_set (heap_set (heap_set h 0 v0) 1 v1) 2 v2) 3 v3]
  obtain ⟨l⟩ := c
  match l, hc with
  | [a, b, d, e], _ => rfl
set_option maxRecDepth 100000 in
set_option maxHeartbeats 2000000 in
theorem firstText_any {w : World} (K : List UInt8) (hK : K.length ≤ 1000) (m : Int) (hm : w.cell? ⟨0, 0, none⟩ = some (.int .i64 m)) :
    Calls Tryd.prog 45 #[.string (bs K)] w fun e w' => e = .returned (fval ((unesc K).map fun x => (kText (bs x.1), x.2))) ∧ Below w.heap.size w w' := by
  have HM := Lib.hid (cell_alloc0 hm (.cells #[.int .u8 0, .int .i64 0, .int .u64 0, .string ⟨#[]⟩] 49))
  clear hm
  have hbz := bs_size
  have hba := bs_append
  have hc0 : ∀ l : List UInt8, bs l ++ ByteArray.mk #[0] = bs (l ++ [0]) := fun l => bs_append l [0]
  go_enter Tryd.func45, Tryd.ntmps45
  go_wp2
  go_loopw [0, 5] (FtJ K w) (fun k _ _ => strLen k)
  case atStart => exact ⟨[], K, 0, ahead_nil _, by simp, rfl, rfl, rfl⟩
  case round =>
    obtain ⟨a, l, n, hu, hl, rfl, rfl, rfl⟩ := hrel
    have hcl := cut0_len l
    rw [unesc_cut l, ahead_ahead] at hu
    have HM2 : Hid (((w.alloc (.cells #[.int .u8 0, .int .i64 0, .int .u64 0, .string ⟨#[]⟩] 49)).drewN n).cell? ⟨0, 0, none⟩ = some (.int .i64 m)) := HM.out
    have hcut := Lib.hid (scut_any l (by omega) m HM2.out)
    have hshort : ∀ d r, (cut0 l).2 = d :: r → r.length + 2 ≤ l.length := fun d r h => cut0_shorter h
    generalize cut0 l = x at hu hcl hcut hshort
    obtain ⟨p, q⟩ := x
    simp only [] at hu hcl hshort
    match q with
    | [] =>
      have HU := Lib.hid hu
      have h1 := hp_nil 0
      have h2 := hp_nil 255
      clear hu hshort
      go_wp2_with (first
        | (go_at_call 55; refine hcut.out.mono ?_; rintro e w1 ⟨⟨b, rfl⟩, n1, rfl⟩)
        | (go_at_call 56; refine (pre_cut _ _ _).mono ?_; rintro e w' ⟨rfl, rfl⟩)
        | (go_at_call 29; refine (ktext_any (bs (a ++ p)) (by rw [bs_size, List.length_append]; omega) _).mono ?_; rintro e w2 ⟨rfl, hb2⟩; have hB2 := hold_row w (n + n1) hb2; have c0 := cell_in hB2 0 _ rfl; have c1 := cell_in hB2 1 _ rfl; have c2 := cell_in hB2 2 _ rfl; have c3 := cell_in hB2 3 _ rfl; have f0 := free_in hB2 0; have f1 := free_in hB2 1; have f2 := free_in hB2 2; have f3 := free_in hB2 3; have HB2 := Lib.hid hB2; clear hB2))
      exact ret_part rfl rfl rfl rfl rfl (row_sets (row_draw w _) rfl _ _ _ _) ⟨by rw [← HU.out]; rfl, below_sets (below_draw w _ _)⟩
    | d :: r =>
      have hsh := hshort d r rfl
      clear hshort
      by_cases h0 : d = 0
      · subst h0
        have h1 := hp_cons 0 r
        have h2 := tp_cons 0 r
        have HU : Hid (unesc K = some (a ++ p, r)) := by show _ = _; rw [← hu]; simp [onward, ahead]
        clear hu
        go_wp2_with (first
        | (go_at_call 55; refine hcut.out.mono ?_; rintro e w1 ⟨⟨b, rfl⟩, n1, rfl⟩)
        | (go_at_call 56; refine (pre_cut _ _ _).mono ?_; rintro e w' ⟨rfl, rfl⟩)
        | (go_at_call 29; refine (ktext_any (bs (a ++ p)) (by rw [bs_size, List.length_append]; omega) _).mono ?_; rintro e w2 ⟨rfl, hb2⟩; have hB2 := hold_row w (n + n1) hb2; have c0 := cell_in hB2 0 _ rfl; have c1 := cell_in hB2 1 _ rfl; have c2 := cell_in hB2 2 _ rfl; have c3 := cell_in hB2 3 _ rfl; have f0 := free_in hB2 0; have f1 := free_in hB2 1; have f2 := free_in hB2 2; have f3 := free_in hB2 3; have HB2 := Lib.hid hB2; clear hB2))
        exact ret_part rfl rfl rfl rfl rfl (row_sets HB2.out rfl _ _ _ _) ⟨by rw [HU.out]; rfl, below_sets ((below_draw w (n + n1) _).trans (hb2.mono (below_draw w (n + n1) _).size))⟩
      · by_cases h5 : d = 255
        · subst h5
          have h1 := hp_ne (c := 0) (d := 255) (by decide) r
          have h2 := hp_cons 255 r
          have h3 := tp_cons 255 r
          have HU : Hid (ahead (a ++ p ++ [0]) (unesc r) = unesc K) := by show _ = _; rw [← hu]; simp only [onward]; simp only [h0, if_false, if_true, ahead_ahead]
          clear hu h0
          go_wp2_with (first
        | (go_at_call 55; refine hcut.out.mono ?_; rintro e w1 ⟨⟨b, rfl⟩, n1, rfl⟩)
        | (go_at_call 56; refine (pre_cut _ _ _).mono ?_; rintro e w' ⟨rfl, rfl⟩)
        | (go_at_call 29; refine (ktext_any (bs (a ++ p)) (by rw [bs_size, List.length_append]; omega) _).mono ?_; rintro e w2 ⟨rfl, hb2⟩; have hB2 := hold_row w (n + n1) hb2; have c0 := cell_in hB2 0 _ rfl; have c1 := cell_in hB2 1 _ rfl; have c2 := cell_in hB2 2 _ rfl; have c3 := cell_in hB2 3 _ rfl; have f0 := free_in hB2 0; have f1 := free_in hB2 1; have f2 := free_in hB2 2; have f3 := free_in hB2 3; have HB2 := Lib.hid hB2; clear hB2))
          go_roundw
          case rel => exact ⟨a ++ p ++ [0], r, _, HU.out, by simp at hcl ⊢; omega, rfl, by simp, by first | rfl | rw [World.drewN_drewN]⟩
          case measure => simp [strLen, bs_size]; omega
        · have h1 := hp_ne h0 r
          have h2 := hp_ne h5 r
          have HU : Hid (unesc K = none) := by show _ = _; rw [← hu]; simp [onward, h0, h5, ahead]
          clear hu
          go_wp2_with (first
        | (go_at_call 55; refine hcut.out.mono ?_; rintro e w1 ⟨⟨b, rfl⟩, n1, rfl⟩)
        | (go_at_call 56; refine (pre_cut _ _ _).mono ?_; rintro e w' ⟨rfl, rfl⟩)
        | (go_at_call 29; refine (ktext_any (bs (a ++ p)) (by rw [bs_size, List.length_append]; omega) _).mono ?_; rintro e w2 ⟨rfl, hb2⟩; have hB2 := hold_row w (n + n1) hb2; have c0 := cell_in hB2 0 _ rfl; have c1 := cell_in hB2 1 _ rfl; have c2 := cell_in hB2 2 _ rfl; have c3 := cell_in hB2 3 _ rfl; have f0 := free_in hB2 0; have f1 := free_in hB2 1; have f2 := free_in hB2 2; have f3 := free_in hB2 3; have HB2 := Lib.hid hB2; clear hB2))
          exact ret_part rfl rfl rfl rfl rfl (row_sets (row_draw w _) rfl _ _ _ _) ⟨by rw [HU.out]; rfl, below_sets (below_draw w _ _)⟩
end Go.Proofs.YtelbhegkaihjhaaDoor
