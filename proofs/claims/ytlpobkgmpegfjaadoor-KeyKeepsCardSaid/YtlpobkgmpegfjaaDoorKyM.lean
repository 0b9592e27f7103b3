/-
  The law's text that keeps of a part what its sort uses, walked. Conditions: as each theorem states.
-/
import Derived.Test.YtlpobkgmpegfjaaDoorKyL
namespace Go.Proofs.YtlpobkgmpegfjaaDoor
open Go.RowKit
open Vi

def PlJ (w : World) (l : List KPart) (v i : Value) (wr : World) : Prop :=
  ∃ j : Nat, j ≤ l.length ∧ i = .int .i64 j ∧ wr.ownsRow w.heap.size 41 4 v j (((l.take j).map pplain).flatMap KPart.cells) ∧ Below w.heap.size w wr
theorem news_third (wr : World) (o1 o2 : Obj) (q : KPart) : ∀ j u, q.cells[j]? = some u → (((wr.alloc o1).alloc o2).alloc (.cells #[.int .u8 q.sort, .int .i64 q.n, .int .u64 q.u, .string q.s] 41)).cell? ((⟨wr.heap.size + 1 + 1, 0, none⟩ : Addr).add j) = some u := by
  have hn := heap_alloc_new ((wr.alloc o1).alloc o2) (.cells #[.int .u8 q.sort, .int .i64 q.n, .int .u64 q.u, .string q.s] 41)
  have hA : ((wr.alloc o1).alloc o2).heap.size = wr.heap.size + 1 + 1 := by simp
  rw [hA] at hn
  exact World.news_of_block hn
theorem cells_one (q : KPart) : ∀ u ∈ q.cells, u.oneCell' = true := by
  intro x hx; simp [KPart.cells] at hx; rcases hx with rfl | rfl | rfl | rfl <;> rfl
set_option maxRecDepth 100000 in
set_option maxHeartbeats 2000000 in
theorem plain_any {w : World} (A : Option Addr) (c : Nat) (l : List KPart) (hl : l.length ≤ 1000) (ha : PRow w A l) (ho : ∀ p ∈ l, p.ok) :
    Calls Tryd.prog 18 #[.slice A l.length c] w fun e w' => (∃ v, e = .returned v ∧ w'.ownsRow w.heap.size 41 4 v l.length ((l.map pplain).flatMap KPart.cells)) ∧ Below w.heap.size w w' := by
  have HA := Lib.hid ha
  have HK := Lib.hid ho
  clear ha ho
  obtain ⟨i0, hi, hz0, hz1, hz2⟩ := info_parts infoPart
  have HI := Lib.hid (And.intro hi (And.intro hz0 (And.intro hz1 hz2)))
  clear hi hz0 hz1 hz2
  go_enter Tryd.func18, Tryd.ntmps18
  go_wp2
  go_loopw [3, 9] (PlJ w l) (fun _ i _ => l.length - (intOf i).toNat)
  case atStart => exact ⟨0, by omega, rfl, World.ownsRow_nil _ _ _ _, Below.refl _ _⟩
  case round =>
    obtain ⟨j, hj, rfl, hown, hb⟩ := hrel
    have HO := Lib.hid hown
    have HB := Lib.hid hb
    clear hown
    by_cases hlt : j < l.length
    · obtain ⟨a, rfl, hab, hca⟩ := HA.out (by omega)
      obtain ⟨x0, x1, x2, x3⟩ := (hca j hlt).keep (w' := wr) fun q hq => hb.cell (by rw [hq, block_add]; exact hab)
      have HQ : Hid (((l.take (j + 1)).map pplain).flatMap KPart.cells = ((l.take j).map pplain).flatMap KPart.cells ++ (pplain l[j]).cells) := by
        show _ = _
        rw [List.take_succ_eq_append_getElem hlt, List.map_append, List.flatMap_append]; simp only [List.map_cons, List.map_nil, List.flatMap_cons, List.flatMap_nil, List.append_nil]
      have hok := HK.out l[j] (List.getElem_mem hlt)
      generalize l[j] = p at x0 x1 x2 x3 HQ hok
      obtain ⟨q1, q2, q3, q4⟩ := p
      obtain ⟨hk1, _, _, _⟩ := hok
      simp only [] at x0 x1 x2 x3 hk1
      have hsz := HB.out.size
      clear hca hb
      by_cases e1 : q1 = 105
      · subst e1
        have HP : Hid (((l.take (j + 1)).map pplain).flatMap KPart.cells = ((l.take j).map pplain).flatMap KPart.cells ++ (⟨105, q2, 0, ⟨#[]⟩⟩ : KPart).cells) := by
          show _ = _
          rw [HQ.out]; unfold pplain; rw [if_pos rfl]; rfl
        clear HQ
        go_wp2_with (first
          | (at_builtin
             refine wpList_append_lies _ rfl _ _ 22 rfl w.heap.size 41 i0 _ 4 40 Tryd.underlying22 HI.out.1 HI.out.2.1 HI.out.2.2.1 HI.out.2.2.2 rfl (by decide) u3 j (((l.take j).map pplain).flatMap KPart.cells) rfl (((HO.out.alloc _).alloc _).alloc _) ⟨wr.heap.size + 1 + 1, 0, none⟩ 1 1 (KPart.cells ⟨105, q2, 0, ⟨#[]⟩⟩) rfl rfl (news_third wr _ _ ⟨105, q2, 0, ⟨#[]⟩⟩) (cells_one _) (by omega) (by unfold maxLen; omega) (by omega) (by simp; omega) (wr.heap.size + 3) (by simp) ?_
             intro g cap w4 hown4 hgrow4 hwhere hlt4
             have HE := Lib.hid (And.intro hown4 hgrow4)
             clear hown4 hgrow4 hwhere hlt4))
        go_roundw
        case rel => exact ⟨j + 1, by omega, by go_num, by rw [HP.out]; exact HE.out.1, below_grown (((HB.out.alloc (by omega) _).alloc (by simp; omega) _).alloc (by simp; omega) _) (((HO.out.alloc _).alloc _).alloc _) HE.out.2⟩
        case measure => simp [intOf]; omega
      by_cases e2 : q1 = 100
      · subst e2
        have HP : Hid (((l.take (j + 1)).map pplain).flatMap KPart.cells = ((l.take j).map pplain).flatMap KPart.cells ++ (⟨100, q2, 0, ⟨#[]⟩⟩ : KPart).cells) := by
          show _ = _
          rw [HQ.out]; unfold pplain; rw [if_neg (show ¬ 100 = 105 by decide), if_pos rfl]; rfl
        clear HQ
        go_wp2_with (first
          | (at_builtin
             refine wpList_append_lies _ rfl _ _ 22 rfl w.heap.size 41 i0 _ 4 40 Tryd.underlying22 HI.out.1 HI.out.2.1 HI.out.2.2.1 HI.out.2.2.2 rfl (by decide) u3 j (((l.take j).map pplain).flatMap KPart.cells) rfl (((HO.out.alloc _).alloc _).alloc _) ⟨wr.heap.size + 1 + 1, 0, none⟩ 1 1 (KPart.cells ⟨100, q2, 0, ⟨#[]⟩⟩) rfl rfl (news_third wr _ _ ⟨100, q2, 0, ⟨#[]⟩⟩) (cells_one _) (by omega) (by unfold maxLen; omega) (by omega) (by simp; omega) (wr.heap.size + 3) (by simp) ?_
             intro g cap w4 hown4 hgrow4 hwhere hlt4
             have HE := Lib.hid (And.intro hown4 hgrow4)
             clear hown4 hgrow4 hwhere hlt4))
        go_roundw
        case rel => exact ⟨j + 1, by omega, by go_num, by rw [HP.out]; exact HE.out.1, below_grown (((HB.out.alloc (by omega) _).alloc (by simp; omega) _).alloc (by simp; omega) _) (((HO.out.alloc _).alloc _).alloc _) HE.out.2⟩
        case measure => simp [intOf]; omega
      by_cases e3 : q1 = 117
      · subst e3
        have HP : Hid (((l.take (j + 1)).map pplain).flatMap KPart.cells = ((l.take j).map pplain).flatMap KPart.cells ++ (⟨117, 0, q3, ⟨#[]⟩⟩ : KPart).cells) := by
          show _ = _
          rw [HQ.out]; unfold pplain; rw [if_neg (show ¬ 117 = 105 by decide), if_neg (show ¬ 117 = 100 by decide), if_pos rfl]; rfl
        clear HQ
        go_wp2_with (first
          | (at_builtin
             refine wpList_append_lies _ rfl _ _ 22 rfl w.heap.size 41 i0 _ 4 40 Tryd.underlying22 HI.out.1 HI.out.2.1 HI.out.2.2.1 HI.out.2.2.2 rfl (by decide) u3 j (((l.take j).map pplain).flatMap KPart.cells) rfl (((HO.out.alloc _).alloc _).alloc _) ⟨wr.heap.size + 1 + 1, 0, none⟩ 1 1 (KPart.cells ⟨117, 0, q3, ⟨#[]⟩⟩) rfl rfl (news_third wr _ _ ⟨117, 0, q3, ⟨#[]⟩⟩) (cells_one _) (by omega) (by unfold maxLen; omega) (by omega) (by simp; omega) (wr.heap.size + 3) (by simp) ?_
             intro g cap w4 hown4 hgrow4 hwhere hlt4
             have HE := Lib.hid (And.intro hown4 hgrow4)
             clear hown4 hgrow4 hwhere hlt4))
        go_roundw
        case rel => exact ⟨j + 1, by omega, by go_num, by rw [HP.out]; exact HE.out.1, below_grown (((HB.out.alloc (by omega) _).alloc (by simp; omega) _).alloc (by simp; omega) _) (((HO.out.alloc _).alloc _).alloc _) HE.out.2⟩
        case measure => simp [intOf]; omega
      by_cases e4 : q1 = 116
      · subst e4
        have HP : Hid (((l.take (j + 1)).map pplain).flatMap KPart.cells = ((l.take j).map pplain).flatMap KPart.cells ++ (⟨116, 0, 0, q4⟩ : KPart).cells) := by
          show _ = _
          rw [HQ.out]; unfold pplain; rw [if_neg (show ¬ 116 = 105 by decide), if_neg (show ¬ 116 = 100 by decide), if_neg (show ¬ 116 = 117 by decide), if_pos rfl]; rfl
        clear HQ
        go_wp2_with (first
          | (at_builtin
             refine wpList_append_lies _ rfl _ _ 22 rfl w.heap.size 41 i0 _ 4 40 Tryd.underlying22 HI.out.1 HI.out.2.1 HI.out.2.2.1 HI.out.2.2.2 rfl (by decide) u3 j (((l.take j).map pplain).flatMap KPart.cells) rfl (((HO.out.alloc _).alloc _).alloc _) ⟨wr.heap.size + 1 + 1, 0, none⟩ 1 1 (KPart.cells ⟨116, 0, 0, q4⟩) rfl rfl (news_third wr _ _ ⟨116, 0, 0, q4⟩) (cells_one _) (by omega) (by unfold maxLen; omega) (by omega) (by simp; omega) (wr.heap.size + 3) (by simp) ?_
             intro g cap w4 hown4 hgrow4 hwhere hlt4
             have HE := Lib.hid (And.intro hown4 hgrow4)
             clear hown4 hgrow4 hwhere hlt4))
        go_roundw
        case rel => exact ⟨j + 1, by omega, by go_num, by rw [HP.out]; exact HE.out.1, below_grown (((HB.out.alloc (by omega) _).alloc (by simp; omega) _).alloc (by simp; omega) _) (((HO.out.alloc _).alloc _).alloc _) HE.out.2⟩
        case measure => simp [intOf]; omega
      · have k1 : ((q1 : Int) == 105) = false := by rw [beq_eq_false_iff_ne]; omega
        have k2 : ((q1 : Int) == 100) = false := by rw [beq_eq_false_iff_ne]; omega
        have k3 : ((q1 : Int) == 117) = false := by rw [beq_eq_false_iff_ne]; omega
        have k4 : ((q1 : Int) == 116) = false := by rw [beq_eq_false_iff_ne]; omega
        have HP : Hid (((l.take (j + 1)).map pplain).flatMap KPart.cells = ((l.take j).map pplain).flatMap KPart.cells ++ (⟨q1, 0, 0, ⟨#[]⟩⟩ : KPart).cells) := by
          show _ = _
          rw [HQ.out]; unfold pplain; rw [if_neg e1, if_neg e2, if_neg e3, if_neg e4]
        clear HQ
        go_wp2_with (first
          | (at_builtin
             refine wpList_append_lies _ rfl _ _ 22 rfl w.heap.size 41 i0 _ 4 40 Tryd.underlying22 HI.out.1 HI.out.2.1 HI.out.2.2.1 HI.out.2.2.2 rfl (by decide) u3 j (((l.take j).map pplain).flatMap KPart.cells) rfl (((HO.out.alloc _).alloc _).alloc _) ⟨wr.heap.size + 1 + 1, 0, none⟩ 1 1 (KPart.cells ⟨q1, 0, 0, ⟨#[]⟩⟩) rfl rfl (news_third wr _ _ ⟨q1, 0, 0, ⟨#[]⟩⟩) (cells_one _) (by omega) (by unfold maxLen; omega) (by omega) (by simp; omega) (wr.heap.size + 3) (by simp) ?_
             intro g cap w4 hown4 hgrow4 hwhere hlt4
             have HE := Lib.hid (And.intro hown4 hgrow4)
             clear hown4 hgrow4 hwhere hlt4))
        go_roundw
        case rel => exact ⟨j + 1, by omega, by go_num, by rw [HP.out]; exact HE.out.1, below_grown (((HB.out.alloc (by omega) _).alloc (by simp; omega) _).alloc (by simp; omega) _) (((HO.out.alloc _).alloc _).alloc _) HE.out.2⟩
        case measure => simp [intOf]; omega
    · have e : j = l.length := by omega
      subst e
      go_wp2
      go_ret
      exact ⟨⟨_, rfl, by simpa using HO.out⟩, HB.out⟩
end Go.Proofs.YtlpobkgmpegfjaaDoor
