/-
  The chapter's example of a log, walked. Conditions: as each theorem states.
-/
import Derived.Test.YtdkgieaanpfhcaaGreatDoorWaI
import Derived.Test.YtdkgieaanpfhcaaGreatDoorFrI
import Derived.Test.YtdkgieaanpfhcaaGreatDoorFrAwake
import Derived.Test.YtdkgieaanpfhcaaGreatDoorGaDk
namespace Go.Proofs.YtdkgieaanpfhcaaGreatDoor.Wa
open Go.RowKit Go.Shelf
open Go.Proofs.YtdkgieaanpfhcaaGreatDoor
open Vi Ba

section
variable {d m : Nat} {W : World} {L : List Dk.Ent} {room steps fuse fault : Int}
theorem wload_ok {u : Nat} (hu : u < 100) (h : Dk.DiskAt W d m L room steps fuse fault false) {e : Dk.Ent} (he : e ∈ L) (hne : e.name = Ed.nm [108] u) (hsz : (Ed.nm [108] u).length ≤ 100) (hL : e.bytes.length ≤ 1000000) :
    Calls Tryz.prog 23 #[.pointer (some ⟨d, 0, none⟩), .int .u64 u] W fun r W' => ∃ A c xs, r = .returned (.tuple #[.slice A xs.length c, .int .i64 0]) ∧ xs.map Prod.fst = tell 0 (recs e.bytes 0) ∧ BIn W.heap.size 32 W' (.slice A xs.length c) xs ∧ Below W.heap.size W W' := by
  have HN := Lib.hid (Ed.name_small u hu)
  have H := Lib.hid h
  have hz : Hid ((bs (Ed.nm [108] u)).size ≤ maxLen) := by rw [Hid, bs_size]; unfold maxLen; omega
  have HR := Lib.hid fun (X : World) (hx : Dk.DiskAt X d m L room steps fuse fault false) => Dk.read_ok hx (bs (Ed.nm [108] u)) hz he (by rw [bs_toList]; exact hne)
  have HRA := Lib.hid fun (X : World) => read_any e.bytes X
  have HCO := Lib.hid fun (X : World) (bp : Nat) (hb : X.heap[bp]? = some (.cells #[.string (bs e.bytes)] 9 (0, 0))) => collect_read e.bytes hL hb
  unfold bs at HRA HCO
  unfold Ed.SPost at HN
  generalize Ed.nm [108] u = name at *
  clear h
  go_enter Tryz.func23, Tryz.ntmps23
  go_wp2_with (first
    | (go_at_call 34; (with_reducible refine (HN.out _).mono ?_); rintro r w1 ⟨rfl, hb1⟩; have B1 := Lib.hid hb1; clear hb1)
    | (go_at_call 20; (refine (HR.out _ (H.out.below B1.out)).mono ?_); rintro r w2 ⟨rfl, rfl⟩)
    | (go_at_call 8; (refine (HRA.out _).mono ?_); rintro r w3 ⟨rfl, rfl⟩)
    | (go_at_call 45; (refine (HCO.out _ _ (heap_alloc_new w1 _)).mono ?_); rintro r w4 ⟨v, xs, rfl, h1, h2, h3⟩; have H4 := Lib.hid (And.intro h1 (And.intro h2 h3)); clear h1 h2 h3))
  go_ret2
  obtain ⟨A, c, rfl⟩ := H4.out.2.1.slice
  exact ⟨A, c, xs, rfl, H4.out.1, ⟨owns_base H4.out.2.1.own (by have := B1.out.size; simp; omega), H4.out.2.1.lies⟩, (B1.out.trans (((Below.refl _ w1).alloc (Nat.le_refl _) _).mono B1.out.size)).trans (H4.out.2.2.mono (by have := B1.out.size; simp; omega))⟩
end
theorem wname_any {base g d m len next : Nat} {w W : World} {L : List Dk.Ent} {room steps fuse fault : Int} {name : List UInt8} (h : LW base w g d m L room steps fuse fault name len next W) (hsz : name.length ≤ 100) :
    Calls Tryz.prog 24 #[.pointer (some ⟨g, 0, none⟩)] W fun r W' => r = .returned (.string (bs name)) ∧ Below W.heap.size W W' := by
  obtain ⟨c0, c1, c2, c3, c4, c5⟩ := h.cells
  have HC := Lib.hid fun (X : World) => clone_any (bs name) X (by rw [Hid, bs_size]; omega)
  clear h
  go_enter Tryz.func24, Tryz.ntmps24
  go_wp2_with (first
    | (go_at_call 46; (refine (HC.out _).mono ?_); rintro r w1 ⟨rfl, hb1⟩))
  go_ret
  exact ⟨rfl, hb1⟩
theorem awake5_any (w : World) : Calls Tryz.prog 27 #[] w fun e w' => e = .returned (.bool true) ∧ Below w.heap.size w w' := by
  go_enter Tryz.func27, Tryz.ntmps27
  go_wp2_with (first
    | (go_at_call 49; (refine (awake_any _).mono ?_); rintro r w1 ⟨rfl, hb1⟩))
  go_ret
  exact ⟨rfl, hb1⟩
theorem one_of {xs : List BX} {b : Bat} (h : xs.map Prod.fst = [b]) : ∃ x, xs = [x] ∧ x.1 = b := by
  match xs, h with
  | [y], h => exact ⟨y, rfl, by simpa using h⟩
theorem wname_l3 {base g d m len next : Nat} {w W : World} {L : List Dk.Ent} {room steps fuse fault : Int} (h : LW base w g d m L room steps fuse fault [108, 45, 51] len next W) :
    Calls Tryz.prog 24 #[.pointer (some ⟨g, 0, none⟩)] W fun r W' => r = .returned (.string ⟨#[108, 45, 51]⟩) ∧ Below W.heap.size W W' := wname_any h (by simp)
def aL : List Chg := [⟨1, ⟨#[97]⟩, ⟨#[]⟩⟩]
theorem aL_chk : chkB 1 aL = 0 := by decide +kernel
theorem aL_len : (bb 1 aL).length = 13 := by
  unfold bb aL cb vtx
  simp [little_len]
  decide +kernel
theorem nm3 : Ed.nm [108] 3 = [108, 45, 51] := by decide +kernel
theorem aL_lay : (lay 0 (bb 1 aL)).length = 20 := by rw [lay_len, aL_len]; decide +kernel
theorem aL_tell : tell 0 (recs (lay 0 (bb 1 aL)) 0) = [⟨1, aL⟩] := by
  have h := rread_laid [] (bb 1 aL) []
  simp at h
  have h2 := rread_end (lay 0 (bb 1 aL))
  rw [recs_some h, recs_none h2, tell]
  rw [show (parse ((bb 1 aL), (lay 0 (bb 1 aL)).length).1) = (aL, 1, 0) from parse_bb aL_chk]
  rfl
theorem can_steps (n : Int) (h0 : 0 ≤ n) (h1 : n ≤ 1000000000) : Dk.CanStep n (-1) (-1) := ⟨rfl, rfl, by omega, by omega, by omega, by omega, by omega, by omega⟩
theorem crow_one (W : World) (k : Nat) (hk : k = W.heap.size) : CRow (W.alloc (.cells #[.int .i64 1, .string ⟨#[97]⟩, .string ⟨#[]⟩] 63)) (some ⟨k, 0, none⟩) aL := fun _ => by
  subst hk
  have hc := heap_alloc_new W (.cells #[.int .i64 1, .string ⟨#[97]⟩, .string ⟨#[]⟩] 63)
  refine ⟨_, rfl, by simp, fun i hi => ?_⟩
  have hi0 : i = 0 := by simp [aL] at hi; omega
  subst hi0
  exact ⟨cell_in hc 0 _ rfl, cell_in hc 1 _ rfl, cell_in hc 2 _ rfl⟩
set_option maxHeartbeats 2000000 in
set_option maxRecDepth 100000 in
theorem awake16_any (w : World) : Calls Tryz.prog 6 #[] w fun e w' => e = .returned (.bool true) ∧ Below w.heap.size w w' := by
  have hl20 := aL_lay
  have htell := aL_tell
  generalize hda : lay 0 (bb 1 aL) = data at hl20 htell
  have HT := Lib.hid (And.intro hl20 htell)
  clear hl20 htell
  have HDA := Lib.hid hda
  clear hda
  have HNM := Lib.hid nm3
  go_enter Tryz.func6, Tryz.ntmps6
  go_wp2_with (first
    | (go_at_call 11; (refine (Dk.new_any 1000 (by omega) (by omega) _).mono ?_); rintro r w1 ⟨rfl, hd, hb⟩
       have H1 := Lib.hid (And.intro hd hb)
       clear hd hb)
    | (go_at_call 12
       refine (wcreate_ok (base := w.heap.size) (w := w) (u := 3) (by decide) H1.out.1 (fun k hk => by simp [Dk.feet] at hk; omega) H1.out.2 H1.out.2.size (by rw [HNM.out]; decide) (fun e he => by cases he) (by simp) (can_steps 0 (by omega) (by omega)) (by rw [HNM.out]; simp)).mono ?_
       rintro r w2 ⟨g, F, rfl, h2⟩
       rw [HNM.out] at h2
       have H2 : Hid (LW w.heap.size w g (w.heap.size + 1) w.heap.size ([] ++ ⟨[108, 45, 51], [], 0, F, .slice none 0 0⟩ :: []) 1000 (0 + 1) (-1) (-1) [108, 45, 51] 0 0 w2) := h2
       clear h2)
    | (go_at_call 27; (refine (awake5_any _).mono ?_); rintro r w3 ⟨rfl, hb⟩
       have H3 := Lib.hid (H2.out.on hb)
       clear hb)
    | (go_at_call 16
       have hal : Below w3.heap.size w3 (w3.alloc (.cells #[.int .i64 1, .string ⟨#[97]⟩, .string ⟨#[]⟩] 63)) := (Below.refl _ _).alloc (Nat.le_refl _) _
       refine (add_ok (seq := 1) (l := aL) (H3.out.on hal) (crow_one w3 _ rfl) (fun p hp => by simp [aL] at hp; subst hp; exact ⟨by decide, by decide⟩) aL_chk (by omega) (by omega) rfl (by simp) (by omega) (by rw [HDA.out, HT.out.1]; simp [Dk.usedL]) (can_steps _ (by omega) (by omega)) (can_steps _ (by omega) (by omega))).mono ?_
       rintro r w4 ⟨v4, rfl, h4⟩
       rw [HDA.out] at h4
       have H4 : Hid (LW w.heap.size w g (w.heap.size + 1) w.heap.size ([] ++ ⟨[108, 45, 51], data, data.length, F, v4⟩ :: []) 1000 (0 + 1 + 1 + 1) (-1) (-1) [108, 45, 51] (0 + data.length) (1 + 1) w4) := h4
       clear h4 hal)
    | (go_at_call 23
       refine (wload_ok (u := 3) (by decide) H4.out.dk (e := ⟨[108, 45, 51], data, data.length, F, v4⟩) (by simp) (by rw [HNM.out]) (by rw [HNM.out]; simp) (by show data.length ≤ _; rw [HT.out.1]; decide)).mono ?_
       rintro r w5 ⟨A5, c5, xs, rfl, hx, hi, hb⟩
       have hx2 : xs.map Prod.fst = [⟨1, aL⟩] := by rw [hx]; exact HT.out.2
       obtain ⟨x, rfl, hx3⟩ := one_of hx2
       obtain ⟨gx, rfl, hgx, hcx⟩ := hi.at (by simp)
       have cx := (hcx 0 (by simp)).1
       simp [hx3] at cx
       have H5 := Lib.hid (H4.out.on hb)
       clear hb hx hx2 hi hcx)
    | (go_at_call 24; (refine (wname_l3 H5.out).mono ?_); rintro r w6 ⟨rfl, hb⟩
       have cx6 := (hb.cell (p := ⟨gx, 0, none⟩) hgx).trans cx
       have H6 := Lib.hid (H5.out.on hb)
       clear hb))
  go_ret
  exact ⟨rfl, H6.out.below⟩
end Go.Proofs.YtdkgieaanpfhcaaGreatDoor.Wa
