/-
  The Go text of batches, walked: Bytes. Conditions: as each theorem states.
-/
import Derived.Test.YtbolklpdbckefaaBaB
namespace Go.Proofs.Ytbolklpdbckefaa.Ba
open Go.RowKit
open Go.Proofs.Ytbolklpdbckefaa
open Vi

def ByPost (w : World) (r : List UInt8) (v : Int) (e : Ending) (w' : World) : Prop := e = .returned (.tuple #[.string (bs r), .int .i64 v]) ∧ Below w.heap.size w w'
theorem bytes_bad (seq : Nat) (hq : seq < 18446744073709551616) {A : Option Addr} {c : Nat} {l : List Chg} {w : World} (RA : CRow w A l) (hl : l.length ≤ 9223372036854775807) (hs : ∀ p ∈ l, p.small) (hc : ¬ chkB seq l = 0) :
    Calls Try.prog 6 #[.agg #[.int .u64 seq, .slice A l.length c]] w (ByPost w [] (chkB seq l)) := by
  have HC := Lib.hid fun (W : World) (h : CRow W A l) => checkB_any seq hq (c := c) h hl hs
  have R1 := Lib.hid (RA.on ((Below.refl _ _).alloc (Nat.le_refl _) (.cells #[.int .u64 seq, .slice A l.length c] 27 (0, 0))))
  have hc' : (chkB seq l == 0) = false := by simpa using hc
  have hc2 : (chkB seq l != 0) = true := by simp [bne, hc']
  clear RA hs hc
  generalize chkB seq l = z at *
  go_enter Try.func6, Try.ntmps6
  go_wp2_with (go_at_call 10; (with_reducible refine (HC.out _ R1.out).mono ?_); rintro e w2 ⟨rfl, hb2⟩)
  go_ret2
  exact ⟨rfl, ((Below.refl _ _).alloc (Nat.le_refl _) _).trans (hb2.mono (by simp))⟩
/-- what is written ahead of change number j -/
def bbTo (seq : Nat) (l : List Chg) (j : Nat) : List UInt8 := little 8 seq ++ (vnum l.length ++ (l.take j).flatMap cb)
theorem bbTo_on {seq : Nat} {l : List Chg} {j : Nat} (hj : j < l.length) : bbTo seq l (j + 1) = bbTo seq l j ++ cb l[j] := by
  unfold bbTo; rw [List.take_succ_eq_append_getElem hj, List.flatMap_append]; simp
theorem bbTo_all {seq : Nat} {l : List Chg} : bbTo seq l l.length = bb seq l := by unfold bbTo bb; rw [List.take_length]
theorem bbTo_len {seq : Nat} {l : List Chg} {j : Nat} (h : ∀ c ∈ l, chk1 c = 0) (hl : l.length ≤ 2000) (hj : j ≤ l.length) : (bbTo seq l j).length ≤ 8700000 := by
  have h1 := flat_len (l := l.take j) fun c hc => h c (List.mem_of_mem_take hc)
  have h2 := vnum_len10 (n := l.length) (by omega)
  rw [List.length_take] at h1
  unfold bbTo; rw [List.length_append, List.length_append, little_len]; omega
/-- the batch's box and the builder, at one world -/
def ByAt (w : World) (o : Obj) (b : Nat) (s : List UInt8) (wr : World) : Prop := Below (w.heap.size + 1) (w.alloc o) wr ∧ Bd b b s wr ∧ w.heap.size + 1 ≤ b
theorem byAt_start {w w2 : World} {o : Obj} (h : Below (w.alloc o).heap.size (w.alloc o) w2) : ByAt w o w2.heap.size [] (w2.alloc (.cells #[.pointer none, .slice none 0 0] 42 (0, 0))) := by
  have hs := h.size
  simp at hs
  exact ⟨(h.mono (by simp)).alloc (by omega) _, bd_fresh w2, hs⟩
theorem byAt_below {w wr w2 : World} {o : Obj} {b : Nat} {s : List UInt8} (h : ByAt w o b s wr) (hb : Below wr.heap.size wr w2) : ByAt w o b s w2 :=
  ⟨h.1.trans (hb.mono (box_size h.1)), bd_below h.2.1 hb, h.2.2⟩
theorem byAt_write {w wr w2 : World} {o : Obj} {b : Nat} {s s2 : List UInt8} (h : ByAt w o b s wr) (hb : Below b wr w2) (hd : Bd b b s2 w2) : ByAt w o b s2 w2 :=
  ⟨h.1.trans (hb.mono h.2.2), hd, h.2.2⟩
theorem byAt_box {w wr : World} {x y : Value} {t : TypeId} {b : Nat} {s : List UInt8} (h : ByAt w (.cells #[x, y] t (0, 0)) b s wr) :
    wr.cell? ⟨w.heap.size, 0, none⟩ = some x ∧ wr.cell? ⟨w.heap.size, 1, none⟩ = some y := box2 h.1
theorem byAt_bd {w wr : World} {o : Obj} {b : Nat} {s : List UInt8} (h : ByAt w o b s wr) : Bd b b s wr := h.2.1
theorem byAt_num {w wr : World} {o : Obj} {b : Nat} {s : List UInt8} (h : ByAt w o b s wr) : w.heap.size < b ∧ b < wr.heap.size ∧ w.heap.size < wr.heap.size := by
  have := bd_lt h.2.1; have := h.2.2; omega
theorem text_vtx (s : ByteArray) (hs : s.size ≤ 1000000) (w : World) :
    Calls Try.prog 15 #[.string s] w fun e w' => e = .returned (.string (bs (vtx s))) ∧ Below w.heap.size w w' := text_any s hs w
theorem byAt_alloc {w wr : World} {o o2 : Obj} {b : Nat} {s : List UInt8} (h : ByAt w o b s wr) : ByAt w o b s (wr.alloc o2) := byAt_below h ((Below.refl _ _).alloc (Nat.le_refl _) _)
theorem bbTo_put {seq : Nat} {l : List Chg} {j : Nat} {key value : ByteArray} (hj : j < l.length) (h : l[j] = ⟨1, key, value⟩) : ((bbTo seq l j ++ [1]) ++ vtx key) ++ vtx value = bbTo seq l (j + 1) := by
  rw [bbTo_on hj, h, cb, if_pos rfl, show UInt8.ofNat (Int.toNat 1) = 1 from rfl]; simp
theorem bbTo_del {seq : Nat} {l : List Chg} {j : Nat} {key value : ByteArray} (hj : j < l.length) (h : l[j] = ⟨2, key, value⟩) : (bbTo seq l j ++ [2]) ++ vtx key = bbTo seq l (j + 1) := by
  rw [bbTo_on hj, h, cb, if_neg (show ¬ (2 : Int) = 1 by decide), show UInt8.ofNat (Int.toNat 2) = 2 from rfl]; simp
theorem bbTo_zero {seq : Nat} {l : List Chg} : ([] ++ little 8 seq) ++ vnum l.length = bbTo seq l 0 := by unfold bbTo; simp
theorem chg_kept {b k0 : Nat} {w2 w4 : World} {x y z : Value} (hb : Kept b w2 w4) (hn : w2.heap[k0]? = some (.cells #[x, y, z] 35 (0, 0))) (hk : b < k0) :
    w4.heap[k0]? = some (.cells #[x, y, z] 35 (0, 0)) := kept_cells hb hn (by omega)
theorem chg_cells {k0 : Nat} {w4 : World} {x y z : Value} (h : w4.heap[k0]? = some (.cells #[x, y, z] 35 (0, 0))) :
    w4.cell? ⟨k0, 0, none⟩ = some x ∧ w4.cell? ⟨k0, 1, none⟩ = some y ∧ w4.cell? ⟨k0, 2, none⟩ = some z := ⟨cell_in h 0 _ rfl, cell_in h 1 _ rfl, cell_in h 2 _ rfl⟩
theorem u8_one : (1 : Int) = ((1 : UInt8).toNat : Int) := rfl
theorem u8_two : (2 : Int) = ((2 : UInt8).toNat : Int) := rfl
def ByRel (w : World) (o : Obj) (b : Nat) (seq : Nat) (l : List Chg) (i : Value) (wr : World) : Prop :=
  ∃ j : Nat, j ≤ l.length ∧ i = .int .i64 (j : Nat) ∧ ByAt w o b (bbTo seq l j) wr
set_option maxHeartbeats 1000000 in
set_option maxRecDepth 100000 in
theorem bytes_ok (seq : Nat) {A : Option Addr} {c : Nat} {l : List Chg} {w : World} (RA : CRow w A l) (hs : ∀ p ∈ l, p.small) (hc : chkB seq l = 0) :
    Calls Try.prog 6 #[.agg #[.int .u64 seq, .slice A l.length c]] w (ByPost w (bb seq l) 0) := by
  obtain ⟨k1, k2, k3, k4⟩ := chkB_ok.1 hc
  have hq : seq < 18446744073709551616 := by omega
  have hl : l.length ≤ 9223372036854775807 := by omega
  have HC := Lib.hid fun (W : World) (h : CRow W A l) => checkB_any seq hq (c := c) h hl hs
  rw [hc] at HC
  have R1 := Lib.hid (RA.on ((Below.refl _ _).alloc (Nat.le_refl _) (.cells #[.int .u64 seq, .slice A l.length c] 27 (0, 0))))
  replace RA := Lib.hid RA
  have HW := Lib.hid (wide_any seq hq)
  have HN := Lib.hid (num_any l.length (by omega))
  have hn10 := vnum_len10 (n := l.length) (by omega)
  have K2 := Lib.hid k2
  have L1 : Hid (([] : List UInt8).length + (little 8 seq).length ≤ 140737488355328) := by rw [Hid, little_len]; decide
  have L2 : Hid (([] ++ little 8 seq).length + (vnum l.length).length ≤ 140737488355328) := by rw [Hid, List.nil_append, little_len]; omega
  clear hs hc k2
  go_enter Try.func6, Try.ntmps6
  go_wp2_with (first
    | (go_at_call 10; (with_reducible refine (HC.out _ R1.out).mono ?_); rintro e w2 ⟨rfl, hb2⟩; have B2 := Lib.hid (byAt_start hb2); obtain ⟨d0, d1⟩ := byAt_box B2.out; obtain ⟨n0, n1, n2⟩ := byAt_num B2.out; clear hb2)
    | (go_at_call 12; (with_reducible refine (HW.out _).mono ?_); rintro e w3 ⟨rfl, hb3⟩; have B3 := Lib.hid (byAt_below B2.out hb3); clear hb3)
    | (go_at_call 13; (with_reducible refine (HN.out _).mono ?_); rintro e w3 ⟨rfl, hb3⟩; have B5 := Lib.hid (byAt_below B4.out hb3); clear hb3)
    | (go_at_call 11; (with_reducible refine (bd_write (byAt_bd B5.out) L2.out).mono ?_); rintro e w4 ⟨rfl, hd4, hb4, _⟩; have B6 := Lib.hid (byAt_write B5.out hb4 hd4); obtain ⟨g0, g1⟩ := byAt_box B6.out; clear hb4 hd4)
    | (go_at_call 11; (with_reducible refine (bd_write (byAt_bd B3.out) L1.out).mono ?_); rintro e w4 ⟨rfl, hd4, hb4, _⟩; have B4 := Lib.hid (byAt_write B3.out hb4 hd4); obtain ⟨f0, f1⟩ := byAt_box B4.out; clear hb4 hd4))
  go_loopw [26] (ByRel w (.cells #[.int .u64 seq, .slice A l.length c] 27 (0, 0)) w2.heap.size seq l) (fun i _ => l.length - (intOf i).toNat)
  case atStart => exact ⟨0, by omega, rfl, by rw [← bbTo_zero]; exact B6.out⟩
  case round =>
    obtain ⟨j, hj, rfl, hrel⟩ := hrel
    have C0 := Lib.hid hrel
    clear hrel B2 B3 B4 B5 B6
    by_cases hlt : j < l.length
    · obtain ⟨a, rfl, hab, hca⟩ := RA.out (by omega)
      obtain ⟨x0, x1, x2⟩ := hca j hlt
      have hck := K2.out l[j] (List.getElem_mem hlt)
      have hbl : (a.add (j * 3)).block < w.heap.size := by rw [block_add]; exact hab
      have hb' := box_below C0.out.1
      rw [← hb'.cell (p := a.add (j * 3)) hbl] at x0
      rw [← hb'.cell (p := ⟨(a.add (j * 3)).block, (a.add (j * 3)).off + 1, none⟩) hbl] at x1
      rw [← hb'.cell (p := ⟨(a.add (j * 3)).block, (a.add (j * 3)).off + 2, none⟩) hbl] at x2
      clear hca hb'
      have hlen := bbTo_len (seq := seq) K2.out k1 hj
      have C1 := Lib.hid (byAt_alloc (o2 := .cells #[.int .i64 l[j].kind, .string l[j].key, .string l[j].value] 35 (0, 0)) C0.out)
      have HY := Lib.hid (rfl : l[j] = l[j])
      generalize hy : l[j] = y at x0 x1 x2 hck C1
      replace hy := Lib.hid hy
      obtain ⟨k, key, value⟩ := y
      obtain ⟨hk, t1, t2, t3, t4⟩ := chk1_ok.1 hck
      simp only at x0 x1 x2 hk t1 t2 t3 t4 C1
      have v1 := vtx_len (s := key) (by omega)
      have v2 := vtx_len (s := value) (by omega)
      have T1 := Lib.hid (text_vtx key (by omega))
      have T2 := Lib.hid (text_vtx value (by omega))
      have M1 : Hid ((bbTo seq l j).length + 1 ≤ 140737488355328) := by rw [Hid]; omega
      have M2 : ∀ d : UInt8, Hid ((bbTo seq l j ++ [d]).length + (vtx key).length ≤ 140737488355328) := fun d => by rw [Hid, List.length_append]; simp; omega
      have M3 : ∀ d : UInt8, Hid (((bbTo seq l j ++ [d]) ++ vtx key).length + (vtx value).length ≤ 140737488355328) := fun d => by rw [Hid, List.length_append, List.length_append]; simp; omega
      clear hck
      rcases hk with rfl | rfl
      · go_wp2_with (first
          | (go_at_call 14; (with_reducible refine (bd_byte u8_one (byAt_bd C1.out) M1.out).mono ?_); rintro e w4 ⟨rfl, hd4, hb4, hk4⟩; have C2 := Lib.hid (byAt_write C1.out hb4 hd4); have Q2 := Lib.hid (chg_kept hk4 (heap_alloc_new _ _) (byAt_num C0.out).2.1); obtain ⟨y0, y1, y2⟩ := chg_cells Q2.out; clear hd4 hb4 hk4)
          | (go_at_call 15; have Z := C4; (with_reducible refine (T2.out _).mono ?_); rintro e w5 ⟨rfl, hb5⟩; have C5 := Lib.hid (byAt_below C4.out hb5); clear hb5)
          | (go_at_call 15; (with_reducible refine (T1.out _).mono ?_); rintro e w5 ⟨rfl, hb5⟩; have C3 := Lib.hid (byAt_below C2.out hb5); have Q3 := Lib.hid (chg_kept (kept_below hb5) Q2.out (byAt_num C0.out).2.1); clear hb5)
          | (go_at_call 11; (with_reducible refine (bd_write (byAt_bd C5.out) (M3 _).out).mono ?_); rintro e w6 ⟨rfl, hd6, hb6, _⟩; have C6 := Lib.hid (byAt_write C5.out hb6 hd6); clear hb6 hd6)
          | (go_at_call 11; (with_reducible refine (bd_write (byAt_bd C3.out) (M2 _).out).mono ?_); rintro e w6 ⟨rfl, hd6, hb6, hk6⟩; have C4 := Lib.hid (byAt_write C3.out hb6 hd6); obtain ⟨z0, z1, z2⟩ := chg_cells (chg_kept hk6 Q3.out (byAt_num C0.out).2.1); clear hb6 hd6 hk6))
        go_roundw
        case rel => exact ⟨j + 1, by omega, by go_num, by rw [← bbTo_put hlt hy.out]; exact C6.out⟩
        case measure => simp [intOf]; omega
      · go_wp2_with (first
          | (go_at_call 14; (with_reducible refine (bd_byte u8_two (byAt_bd C1.out) M1.out).mono ?_); rintro e w4 ⟨rfl, hd4, hb4, hk4⟩; have C2 := Lib.hid (byAt_write C1.out hb4 hd4); have Q2 := Lib.hid (chg_kept hk4 (heap_alloc_new _ _) (byAt_num C0.out).2.1); obtain ⟨y0, y1, y2⟩ := chg_cells Q2.out; clear hd4 hb4 hk4)
          | (go_at_call 15; have Z := C4; (with_reducible refine (T2.out _).mono ?_); rintro e w5 ⟨rfl, hb5⟩; have C5 := Lib.hid (byAt_below C4.out hb5); clear hb5)
          | (go_at_call 15; (with_reducible refine (T1.out _).mono ?_); rintro e w5 ⟨rfl, hb5⟩; have C3 := Lib.hid (byAt_below C2.out hb5); have Q3 := Lib.hid (chg_kept (kept_below hb5) Q2.out (byAt_num C0.out).2.1); clear hb5)
          | (go_at_call 11; (with_reducible refine (bd_write (byAt_bd C5.out) (M3 _).out).mono ?_); rintro e w6 ⟨rfl, hd6, hb6, _⟩; have C6 := Lib.hid (byAt_write C5.out hb6 hd6); clear hb6 hd6)
          | (go_at_call 11; (with_reducible refine (bd_write (byAt_bd C3.out) (M2 _).out).mono ?_); rintro e w6 ⟨rfl, hd6, hb6, hk6⟩; have C4 := Lib.hid (byAt_write C3.out hb6 hd6); obtain ⟨z0, z1, z2⟩ := chg_cells (chg_kept hk6 Q3.out (byAt_num C0.out).2.1); clear hb6 hd6 hk6))
        go_roundw
        case rel => exact ⟨j + 1, by omega, by go_num, by rw [← bbTo_del hlt hy.out]; exact C4.out⟩
        case measure => simp [intOf]; omega
    · have hj2 : j = l.length := by omega
      subst hj2
      rw [bbTo_all] at C0
      go_wp2_with (go_at_call 16; (with_reducible refine (bd_string (byAt_bd C0.out)).mono ?_); rintro e w7 ⟨rfl, hb7⟩)
      go_ret2
      exact ⟨rfl, box_below (C0.out.1.trans (hb7.mono C0.out.2.2))⟩
end Go.Proofs.Ytbolklpdbckefaa.Ba
