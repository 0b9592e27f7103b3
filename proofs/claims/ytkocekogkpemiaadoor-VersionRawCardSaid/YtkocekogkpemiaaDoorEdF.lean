/-
  The Go text of edits, walked: Bytes of an edit that may be. Conditions: as each theorem states.
-/
import Derived.Test.YtkocekogkpemiaaDoorEdE
namespace Go.Proofs.YtkocekogkpemiaaDoor.Ed
open Go.RowKit
open Go.Proofs.YtkocekogkpemiaaDoor
open Vi Ba

def toA (log next seq : Nat) (come : List Fil) (j : Nat) : List UInt8 := vn [log, next, seq, come.length] ++ (come.take j).flatMap ab
def toG (log next seq : Nat) (come : List Fil) (go : List Gon) (k : Nat) : List UInt8 := (toA log next seq come come.length ++ vn [go.length]) ++ (go.take k).flatMap gb
theorem toA_on {log next seq : Nat} {come : List Fil} {j v n s c : Nat} {l m : ByteArray} (hj : j < come.length) (h : come[j] = ⟨v, n, s, c, l, m⟩) : ((toA log next seq come j ++ vn [v, n, s, c]) ++ vtx l) ++ vtx m = toA log next seq come (j + 1) := by
  unfold toA; rw [List.take_succ_eq_append_getElem hj, List.flatMap_append, h]; simp [ab]
theorem toG_on {log next seq : Nat} {come : List Fil} {go : List Gon} {k v n : Nat} (hk : k < go.length) (h : go[k] = ⟨v, n⟩) : toG log next seq come go k ++ vn [v, n] = toG log next seq come go (k + 1) := by
  unfold toG; rw [List.take_succ_eq_append_getElem hk, List.flatMap_append, h]; simp [gb]
theorem toA_zero {log next seq : Nat} {come : List Fil} : [] ++ vn [log, next, seq, come.length] = toA log next seq come 0 := by unfold toA; simp
theorem toG_zero {log next seq : Nat} {come : List Fil} {go : List Gon} : toA log next seq come come.length ++ vn [go.length] = toG log next seq come go 0 := by unfold toG; simp
theorem toG_all {log next seq : Nat} {come : List Fil} {go : List Gon} : toG log next seq come go go.length = eb ⟨log, next, seq, come, go⟩ := by
  unfold toG toA eb; simp
section
variable {log next seq : Nat} {come : List Fil} {go : List Gon}
theorem hd_len (h1 : log < 18446744073709551616) (h2 : next < 18446744073709551616) (h3 : seq < 18446744073709551616) (h4 : come.length ≤ 200) : (vn [log, next, seq, come.length]).length ≤ 40 := by
  have := vn_len (l := [log, next, seq, come.length]) (by
    intro n hn
    simp at hn
    rcases hn with rfl | rfl | rfl | rfl
    · exact h1
    · exact h2
    · exact h3
    · omega)
  simpa using this
theorem toA_len (h1 : log < 18446744073709551616) (h2 : next < 18446744073709551616) (h3 : seq < 18446744073709551616) (h4 : come.length ≤ 200) (ho : ∀ a ∈ come, a.ok) (h : ∀ a ∈ come, chkA a = 0) (j : Nat) : (toA log next seq come j).length ≤ 92040 := by
  have := hd_len h1 h2 h3 h4
  have h5 := abs_len (l := come.take j) (fun a ha => ho a (List.mem_of_mem_take ha)) (fun a ha => h a (List.mem_of_mem_take ha))
  rw [List.length_take] at h5
  unfold toA; rw [List.length_append]; omega
theorem toG_len (h1 : log < 18446744073709551616) (h2 : next < 18446744073709551616) (h3 : seq < 18446744073709551616) (h4 : come.length ≤ 200) (ho : ∀ a ∈ come, a.ok) (h : ∀ a ∈ come, chkA a = 0) (h6 : go.length ≤ 200) (og : ∀ a ∈ go, a.ok) (hg : ∀ a ∈ go, lvOk a.level) (k : Nat) : (toG log next seq come go k).length ≤ 100000 := by
  have := toA_len h1 h2 h3 h4 ho h come.length
  have h5 := gbs_len (l := go.take k) (fun a ha => og a (List.mem_of_mem_take ha)) (fun a ha => hg a (List.mem_of_mem_take ha))
  have h7 := vn_len (l := [go.length]) (by intro n hn; simp at hn; subst hn; omega)
  rw [List.length_take] at h5
  simp at h7
  unfold toG; rw [List.length_append, List.length_append]; omega
end
theorem nat_level {n : Int} (h : lvOk n) : ∃ v : Nat, n = v ∧ v < 4 := ⟨n.toNat, by have := h.1; omega, by have := h.2; omega⟩
def EaRel (w : World) (o : Obj) (b log next seq : Nat) (come : List Fil) (i : Value) (wr : World) : Prop :=
  ∃ j : Nat, j ≤ come.length ∧ i = .int .i64 (j : Nat) ∧ ByAt w o b (toA log next seq come j) wr
def EgRel (w : World) (o : Obj) (b log next seq : Nat) (come : List Fil) (go : List Gon) (i : Value) (wr : World) : Prop :=
  ∃ j : Nat, j ≤ go.length ∧ i = .int .i64 (j : Nat) ∧ ByAt w o b (toG log next seq come go j) wr
theorem fil_box {k0 : Nat} {w4 : World} {x0 x1 x2 x3 x4 x5 : Value} {t : TypeId} (h : w4.heap[k0]? = some (.cells #[x0, x1, x2, x3, x4, x5] t (0, 0))) :
    w4.cell? ⟨k0, 4, none⟩ = some x4 ∧ w4.cell? ⟨k0, 5, none⟩ = some x5 := ⟨cell_in h 4 _ rfl, cell_in h 5 _ rfl⟩
set_option maxHeartbeats 4000000 in
set_option maxRecDepth 100000 in
theorem ebytes_ok {e : Edt} {A G : Option Addr} (c d : Nat) {w : World} (H : Lies w e A G) (hc : chkE e = 0) :
    Calls Tryd.prog 36 #[e.val A c G d] w (EbPost w (eb e) 0) := by
  obtain ⟨k1, k2, k3, k4⟩ := chkE_ok.1 hc
  have HC := Lib.hid fun (W : World) (h : Lies W e A G) => checkE_any c d h
  rw [hc] at HC
  have R1 := Lib.hid (H.on ((Below.refl _ _).alloc (Nat.le_refl _) (e.box A c G d)))
  obtain ⟨log, next, seq, come, go⟩ := e
  obtain ⟨RA, RG, ⟨o1, o2, o3, oa, og⟩, la, lg⟩ := H
  unfold Edt.val Edt.box at *
  simp only at *
  replace RA := Lib.hid RA
  replace RG := Lib.hid RG
  have TA := Lib.hid (toA_len o1 o2 o3 k1 oa k3)
  have TG := Lib.hid (toG_len o1 o2 o3 k1 oa k3 k2 og k4)
  have HD := hd_len (come := come) o1 o2 o3 k1
  have HL := Lib.hid fun W k hk => elay4 W k hk log next seq come.length o1 o2 o3 (by omega)
  have HL1 := Lib.hid fun W k hk => elay1 W k hk go.length (by omega)
  have V1 := vn_len (l := [go.length]) (by intro n hn; simp at hn; subst hn; omega)
  simp at V1
  replace oa := Lib.hid oa
  replace og := Lib.hid og
  replace k3 := Lib.hid k3
  replace k4 := Lib.hid k4
  have L1 : Hid (([] : List UInt8).length + (vn [log, next, seq, come.length]).length ≤ 140737488355328) := by rw [Hid]; simp; omega
  clear hc HD
  go_enter Tryd.func36, Tryd.ntmps36
  go_wp2_with (first
    | (go_at_call 20; (with_reducible refine (HC.out _ R1.out).mono ?_); rintro e w2 ⟨rfl, hb2⟩; have B2 := Lib.hid (byAt_start hb2); obtain ⟨d0, d1, d2, d3, d4⟩ := byAt_box5 B2.out; obtain ⟨n0, n1, n2⟩ := byAt_num B2.out; clear hb2)
    | (go_at_call 45; (with_reducible refine (HL.out _ _ (by simp)).mono ?_); rintro e w3 ⟨rfl, hb3⟩; have B3 := Lib.hid (byAt_below (byAt_alloc B2.out) hb3); clear hb3)
    | (go_at_call 44; (with_reducible refine (bd_write (byAt_bd B3.out) L1.out).mono ?_); rintro e w4 ⟨rfl, hd4, hb4, _⟩; have B4 := Lib.hid (byAt_write B3.out hb4 hd4); obtain ⟨f0, f1, f2, f3, f4⟩ := byAt_box5 B4.out; clear hb4 hd4))
  go_loopw [31] (EaRel w (.cells #[.int .u64 log, .int .u64 next, .int .u64 seq, .slice A come.length c, .slice G go.length d] 49 (0, 0)) w2.heap.size log next seq come) (fun i _ => come.length - (intOf i).toNat)
  case atStart => exact ⟨0, by omega, rfl, by rw [← toA_zero]; exact B4.out⟩
  case round =>
    obtain ⟨j, hj, rfl, hrel⟩ := hrel
    have C0 := Lib.hid hrel
    clear hrel B2 B3 B4 L1 HL
    by_cases hlt : j < come.length
    · obtain ⟨a, rfl, hab, hca⟩ := RA.out (by omega)
      have hck := k3.out come[j] (List.getElem_mem hlt)
      have hok := oa.out come[j] (List.getElem_mem hlt)
      have hbl : (a.add (j * 6)).block < w.heap.size := by rw [block_add]; exact hab
      have hx := (hca j hlt).on hbl (box_below C0.out.1)
      clear hca
      have hlen := TA.out j
      generalize hy : come[j] = y at hx hck hok
      replace hy := Lib.hid hy
      obtain ⟨lv, n, s, q, l, m⟩ := y
      obtain ⟨t1, t2, t3, _, _⟩ := chkA_ok.1 hck
      obtain ⟨_, _, p1, p2, p3, _, _⟩ := hok
      obtain ⟨lv, rfl, hlv⟩ := nat_level t1
      obtain ⟨x0, x1, x2, x3, x4, x5⟩ := hx
      simp only at t2 t3 p1 p2 p3 x0 x1 x2 x3 x4 x5
      have v1 := vtx_len (s := l) (by have := t2.2; omega)
      have v2 := vtx_len (s := m) (by have := t3.2; omega)
      have v3 := vn_len (l := [lv, n, s, q]) (by
        intro n hn
        simp at hn
        rcases hn with rfl | rfl | rfl | rfl
        · omega
        · exact p1
        · exact p2
        · exact p3)
      simp at v3
      have q1 := t2.2
      have q2 := t3.2
      have HL := Lib.hid fun W k hk => elay4 W k hk lv n s q (by omega) p1 p2 p3
      have T1 := Lib.hid (text_vtx l (by omega))
      have T2 := Lib.hid (text_vtx m (by omega))
      have M1 : Hid ((toA log next seq come j).length + (vn [lv, n, s, q]).length ≤ 140737488355328) := by rw [Hid]; omega
      have M2 : Hid ((toA log next seq come j ++ vn [lv, n, s, q]).length + (vtx l).length ≤ 140737488355328) := by rw [Hid, List.length_append]; omega
      have M3 : Hid (((toA log next seq come j ++ vn [lv, n, s, q]) ++ vtx l).length + (vtx m).length ≤ 140737488355328) := by rw [Hid, List.length_append, List.length_append]; omega
      have C1 := Lib.hid (byAt_alloc (o2 := .cells #[.int .i64 lv, .int .u64 n, .int .u64 s, .int .u64 q, .string l, .string m] 45 (0, 0)) C0.out)
      have hnew := (byAt_num C0.out).2.1
      have Q1 : Hid ((wr.alloc (.cells #[.int .i64 lv, .int .u64 n, .int .u64 s, .int .u64 q, .string l, .string m] 45 (0, 0))).heap[wr.heap.size]? = some (.cells #[.int .i64 lv, .int .u64 n, .int .u64 s, .int .u64 q, .string l, .string m] 45 (0, 0))) := heap_alloc_new _ _
      clear hck t1 t2 t3
      go_wp2_with (first
        | (go_at_call 45; (with_reducible refine (HL.out _ _ (by simp)).mono ?_); rintro e w5 ⟨rfl, hb5⟩; have C2 := Lib.hid (byAt_below (byAt_alloc C1.out) hb5); have Q2 := Lib.hid ((hb5.block _ (by simp; omega)).trans (((Below.refl _ _).alloc (Nat.le_refl _) _ |>.block wr.heap.size (by simp)).trans Q1.out)); clear hb5)
        | (go_at_call 44; have Z := C5; (with_reducible refine (bd_write (byAt_bd C5.out) M3.out).mono ?_); rintro e w8 ⟨rfl, hd8, hb8, _⟩; have C6 := Lib.hid (byAt_write C5.out hb8 hd8); clear hb8 hd8)
        | (go_at_call 44; have Z := C3'; (with_reducible refine (bd_write (byAt_bd C3'.out) M2.out).mono ?_); rintro e w7 ⟨rfl, hd7, hb7, hk7⟩; have C4 := Lib.hid (byAt_write C3'.out hb7 hd7); have Q4 := Lib.hid (kept_at (by decide) hk7 Q3'.out hnew); obtain ⟨_, z5⟩ := fil_box Q4.out; clear hb7 hd7 hk7)
        | (go_at_call 44; (with_reducible refine (bd_write (byAt_bd C2.out) M1.out).mono ?_); rintro e w6 ⟨rfl, hd6, hb6, hk6⟩; have C3 := Lib.hid (byAt_write C2.out hb6 hd6); have Q3 := Lib.hid (kept_at (by decide) hk6 Q2.out hnew); obtain ⟨z4, _⟩ := fil_box Q3.out; clear hb6 hd6 hk6)
        | (go_at_call 46; have Z := C4; (with_reducible refine (T2.out _).mono ?_); rintro e w5 ⟨rfl, hb5⟩; have C5 := Lib.hid (byAt_below C4.out hb5); clear hb5)
        | (go_at_call 46; (with_reducible refine (T1.out _).mono ?_); rintro e w5 ⟨rfl, hb5⟩; have C3' := Lib.hid (byAt_below C3.out hb5); have Q3' := Lib.hid ((hb5.block _ (Array.getElem?_eq_some_iff.1 Q3.out).1).trans Q3.out); clear hb5))
      go_roundw
      case rel => exact ⟨j + 1, by omega, by go_num, by rw [← toA_on hlt hy.out]; exact C6.out⟩
      case measure => simp [intOf]; omega
    · have hj2 : j = come.length := by omega
      subst hj2
      obtain ⟨b0, b1, b2, b3, b4⟩ := byAt_box5 C0.out
      have hlen := TA.out come.length
      have M1 : Hid ((toA log next seq come come.length).length + (vn [go.length]).length ≤ 140737488355328) := by rw [Hid]; omega
      clear d0 d1 d2 d3 d4 f0 f1 f2 f3 f4
      go_wp2_with (first
        | (go_at_call 45; (with_reducible refine (HL1.out _ _ (by simp)).mono ?_); rintro e w5 ⟨rfl, hb5⟩; have C2 := Lib.hid (byAt_below (byAt_alloc C0.out) hb5); clear hb5)
        | (go_at_call 44; (with_reducible refine (bd_write (byAt_bd C2.out) M1.out).mono ?_); rintro e w6 ⟨rfl, hd6, hb6, _⟩; have C3 := Lib.hid (byAt_write C2.out hb6 hd6); obtain ⟨f0, f1, f2, f3, f4⟩ := byAt_box5 C3.out; clear hb6 hd6))
      go_loopw [71] (EgRel w (.cells #[.int .u64 log, .int .u64 next, .int .u64 seq, .slice A come.length c, .slice G go.length d] 49 (0, 0)) w2.heap.size log next seq come go) (fun i _ => go.length - (intOf i).toNat)
      case atStart => exact ⟨0, by omega, rfl, by rw [← toG_zero]; exact C3.out⟩
      case round =>
        obtain ⟨j, hj, rfl, hrel⟩ := hrel
        have D0 := Lib.hid hrel
        clear hrel C0 C2 C3 M1 b0 b1 b2 b3 b4 f0 f1 f2 f3 f4
        by_cases hlt : j < go.length
        · obtain ⟨a, rfl, hab, hca⟩ := RG.out (by omega)
          have hck := k4.out go[j] (List.getElem_mem hlt)
          have hok := og.out go[j] (List.getElem_mem hlt)
          have hbl : (a.add (j * 2)).block < w.heap.size := by rw [block_add]; exact hab
          have hx := (hca j hlt).on hbl (box_below D0.out.1)
          clear hca
          have hlen := TG.out j
          generalize hy : go[j] = y at hx hck hok
          replace hy := Lib.hid hy
          obtain ⟨lv, n⟩ := y
          obtain ⟨_, _, p1⟩ := hok
          simp only at hck
          obtain ⟨lv, rfl, hlv⟩ := nat_level hck
          obtain ⟨x0, x1⟩ := hx
          simp only at p1 x0 x1
          have v3 := vn_len (l := [lv, n]) (by
            intro n hn
            simp at hn
            rcases hn with rfl | rfl
            · omega
            · exact p1)
          simp at v3
          have HL := Lib.hid fun W k hk => elay2 W k hk lv n (by omega) p1
          have M1 : Hid ((toG log next seq come go j).length + (vn [lv, n]).length ≤ 140737488355328) := by rw [Hid]; omega
          have C1 := Lib.hid (byAt_alloc (o2 := .cells #[.int .i64 lv, .int .u64 n] 72 (0, 0)) D0.out)
          clear hck
          go_wp2_with (first
            | (go_at_call 45; (with_reducible refine (HL.out _ _ (by simp)).mono ?_); rintro e w5 ⟨rfl, hb5⟩; have C2 := Lib.hid (byAt_below (byAt_alloc C1.out) hb5); clear hb5)
            | (go_at_call 44; (with_reducible refine (bd_write (byAt_bd C2.out) M1.out).mono ?_); rintro e w6 ⟨rfl, hd6, hb6, hk6⟩; have C3 := Lib.hid (byAt_write C2.out hb6 hd6); clear hb6 hd6 hk6))
          go_roundw
          case rel => exact ⟨j + 1, by omega, by go_num, by rw [← toG_on hlt hy.out]; exact C3.out⟩
          case measure => simp [intOf]; omega
        · have hj2 : j = go.length := by omega
          subst hj2
          rw [toG_all] at D0
          go_wp2_with (go_at_call 47; (with_reducible refine (bd_string (byAt_bd D0.out)).mono ?_); rintro e w7 ⟨rfl, hb7⟩)
          go_ret2
          exact ⟨rfl, box_below (D0.out.1.trans (hb7.mono D0.out.2.2))⟩
end Go.Proofs.YtkocekogkpemiaaDoor.Ed
