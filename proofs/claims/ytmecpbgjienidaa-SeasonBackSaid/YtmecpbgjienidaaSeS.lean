/-
  The law SeasonBack, walked. Conditions: as each theorem states.
-/
import Derived.Test.YtmecpbgjienidaaSeR
import Derived.Test.YtmecpbgjienidaaSeH
import Derived.Test.YtmecpbgjienidaaSeO
import Derived.Laws.AppendOwnNone
namespace Go.Proofs.Ytmecpbgjienidaa
open Go.RowKit
open Se Fl
attribute [local go_sem] run_store_float run_store_complex

set_option maxRecDepth 100000 in
theorem back_long (A B : Option Addr) (ca cb : Nat) (a b : List Int) (n : Nat) (hl : ¬ (a.length ≤ 100 ∧ b.length ≤ 100)) (w : World) :
    Calls Try.prog 4 #[.slice A a.length ca, .slice B b.length cb, .int .u8 n] w fun e w' => e = .returned (.bool true) ∧ Below w.heap.size w w' := by
  by_cases h1 : a.length ≤ 100
  · have h2 : ¬ (b.length : Int) ≤ 100 := by omega
    have h1' : (a.length : Int) ≤ 100 := by omega
    clear hl
    go_enter Try.func4, Try.ntmps4
    go_wp2_with (go_at_call 6; refine (awake33_any _).mono ?_; rintro e w1 ⟨rfl, hb1⟩)
    go_ret
    exact ⟨rfl, hb1⟩
  · have h1' : ¬ (a.length : Int) ≤ 100 := by omega
    clear hl
    go_enter Try.func4, Try.ntmps4
    go_wp2_with (go_at_call 6; refine (awake33_any _).mono ?_; rintro e w1 ⟨rfl, hb1⟩)
    go_ret
    exact ⟨rfl, hb1⟩
def Mid (x : Int) : Prop := -1099511627776 ≤ x ∧ x ≤ 1099511627776
theorem two_rows (w : World) (u v : Value) (t : TypeId) : (w.alloc (.cells #[u, v] t)).cell? ⟨w.heap.size, 0, none⟩ = some u ∧ (w.alloc (.cells #[u, v] t)).cell? ⟨w.heap.size, 1, none⟩ = some v := by
  have h := heap_alloc_last w (.cells #[u, v] t)
  exact ⟨by rw [cell_of_row _ _ 0 _ _ (0, 0) h]; rfl, by rw [cell_of_row _ _ 1 _ _ (0, 0) h]; rfl⟩
theorem bk_facts (a b : List Int) (n M : Nat) (hn : n < 256) (ha : a.length ≤ 100) (hb : b.length ≤ 100) (hM : max a.length b.length = M) (hmid : ∀ j, j < M → Mid (a.getD j 0) ∧ Mid (b.getD j 0)) :
    tot a a.length ≤ 1125899906842624 ∧ tot b b.length ≤ 1125899906842624 ∧ tot (bothTo a b M) (bothTo a b M).length ≤ 1125899906842624 ∧ tot (laterL n a) (laterL n a).length ≤ 1125899906842624 ∧ (∀ p ∈ bothTo a b M, rg p) ∧ (∀ p ∈ laterL n a, rg p) := by
  unfold Mid at hmid
  have fa : ∀ p ∈ a, p.natAbs ≤ 1099511627776 := fun p hp => by
    obtain ⟨i, hi, rfl⟩ := List.mem_iff_getElem.1 hp
    have h := (hmid i (by omega)).1
    rw [List.getD_eq_getElem?_getD, List.getElem?_eq_getElem hi] at h
    simp at h; omega
  have fb : ∀ p ∈ b, p.natAbs ≤ 1099511627776 := fun p hp => by
    obtain ⟨i, hi, rfl⟩ := List.mem_iff_getElem.1 hp
    have h := (hmid i (by omega)).2
    rw [List.getD_eq_getElem?_getD, List.getElem?_eq_getElem hi] at h
    simp at h; omega
  have fx : ∀ p ∈ bothTo a b M, p.natAbs ≤ 2199023255552 := fun p hp => by
    obtain ⟨i, hi, rfl⟩ := List.mem_map.1 hp
    have h := hmid i (List.mem_range.1 hi)
    omega
  have fl : ∀ p ∈ laterL n a, p.natAbs ≤ 1099511627776 := fun p hp => by
    rcases List.mem_append.1 hp with h | h
    · rw [List.mem_replicate] at h; rw [h.2]; decide
    · exact fa p h
  have t1 := tot_le fa a.length
  have t2 := tot_le fb b.length
  have t3 := tot_le fx (bothTo a b M).length
  have t4 := tot_le fl (laterL n a).length
  rw [bothTo_len] at t3 ⊢
  rw [later_len] at t4 ⊢
  exact ⟨by omega, by omega, by omega, by omega, fun p hp => by have := fx p hp; unfold rg; omega, fun p hp => by have := fl p hp; unfold rg; omega⟩
theorem wf_in (s : Nat → Int) (hs : szs s 4 ≤ 1125899906842624) (j : Nat) (hj : j < 4) : In53 (wre s j) ∧ In53 (wim s j) := by
  have h := w_le s j hj
  unfold In53; omega
theorem wf_plus {f g : Nat → Cw} {s t u : Nat → Int} (hf : WF f (wre s) (wim s)) (hg : WF g (wre t) (wim t)) (h : ∀ j, j < 4 → u j = s j + t j) (hu : szs u 4 ≤ 1125899906842624) :
    WF (plusW f g) (wre u) (wim u) ∧ ∀ j, j < 4 → In53 (wre s j + wre t j) ∧ In53 (wim s j + wim t j) := by
  have k : ∀ j, j < 4 → In53 (wre s j + wre t j) ∧ In53 (wim s j + wim t j) := fun j hj => by
    obtain ⟨e1, e2⟩ := w_add s t u h j
    rw [← e1, ← e2]; exact wf_in u hu j hj
  refine ⟨fun j hj => ?_, k⟩
  obtain ⟨e1, e2⟩ := w_add s t u h j
  rw [e1, e2]
  exact addW_cf (hf j hj) (hg j hj) (k j hj).1 (k j hj).2
theorem wf_later {f : Nat → Cw} {s u : Nat → Int} {r : Nat} (hr : r < 4) (hf : WF f (wre s) (wim s)) (hs : szs s 4 ≤ 1125899906842624) (h : ∀ j, j < 4 → u j = s ((j + 4 - r) % 4)) : WF (laterW r f) (wre u) (wim u) := fun j hj => by
  obtain ⟨e1, e2⟩ := w_turn s u r hr h j hj
  obtain ⟨b1, b2⟩ := wf_in s hs j hj
  rw [← e1, ← e2]
  exact turnW_cf _ (hf j hj) b1 b2
theorem own_made (W : World) (n : Nat) (hn : n < 256) : (W.alloc (.cells (madeCells #[.int .i64 0] n) 2)).ownsRow W.heap.size 2 1 (.slice (some ⟨W.heap.size, 0, none⟩) n n) n (iCells (List.replicate n 0)) := by
  refine ⟨by simp [iCells], .inr ⟨W.heap.size, n, madeCells #[.int .i64 0] n, rfl, Nat.le_refl _, heap_alloc_last W _, Nat.le_refl _, by unfold maxLen; omega, by simp [size_madeCells], ?_⟩⟩
  apply List.ext_getElem
  · simp [size_madeCells, iCells]
  · intro i h1 h2
    simp [madeCells, iCells, Nat.mod_one]
theorem append_row {w : World} {ops : Array Oper} {rest : List Oper} {o : Oper} {ac : Act} {Q : Exit → Act → World → Prop} (hgd : o.guard = none) (s x : Operand)
    (ho : o.op = .call { callee := .builtin .append, args := #[s, x], argTypes := #[22, 22] }) (base : Nat) (v : Value) (n : Nat) (xs : List Value) (hs : ac.eval s = v) (hown : w.ownsRow base 2 1 v n xs)
    (A : Option Addr) (c : Nat) (l : List Int) (hx : ac.eval x = .slice A l.length c) (hR : NRow w A l) (hA : A = none → l.length = 0 ∧ c = 0) (hn : n + l.length ≤ 1000) (hbase : base ≤ w.heap.size)
    (h : ∀ v' w', w'.ownsRow base 2 1 v' (n + l.length) (xs ++ iCells l) → w.grownBy w' v.ownBlock → wpList Try.prog ops Q rest (ac.put o.dst v') w') : wpList Try.prog ops Q (o :: rest) ac w := by
  obtain ⟨i0, hi, hz0, hz1, hz2⟩ := info_parts infoI64
  cases A with
  | none =>
    obtain ⟨h1, rfl⟩ := hA rfl
    have hl : l = [] := List.eq_nil_of_length_eq_zero h1
    subst hl
    refine wpList_append_own_none hgd s x 22 ho base 2 i0 1 Try.underlying22 hi v n xs hs hown hx ?_
    exact h v w (by simpa [iCells] using hown) ⟨rfl, rfl, rfl, Nat.le_refl _, fun _ _ _ => rfl⟩
  | some ad =>
    refine wpList_append_own w hgd s x 22 ho base 2 i0 (.int .i64 0) 1 8 Try.underlying22 hi hz0 hz1 hz2 rfl (by decide) v n xs hs hown ad l.length c (iCells l) hx (by simp [iCells]) (fun j u hj => ?_) (fun u hu => ?_) (by unfold maxLen; omega) (by omega) hbase (fun v' w' h1 h2 _ => h v' w' h1 h2)
    · have hj2 : j < l.length := by
        rcases Nat.lt_or_ge j l.length with h | h
        · exact h
        · rw [List.getElem?_eq_none (by simpa [iCells] using h)] at hj; cases hj
      obtain ⟨a', ea, _, hc⟩ := hR (by omega)
      injection ea with ea
      subst ea
      rw [hc j hj2]
      simp [iCells, hj2] at hj
      rw [hj]
    · unfold iCells at hu
      obtain ⟨z, _, rfl⟩ := List.mem_map.1 hu
      rfl
theorem below_made {W w5 : World} {o : Obj} {g : Nat} (hg : g = W.heap.size) (h : (W.alloc o).grownBy w5 (some g)) : Below W.heap.size W w5 := by
  have hb : Below W.heap.size W (W.alloc o) := (Below.refl _ W).alloc (Nat.le_refl _) o
  exact hb.trans ⟨h.os, h.tape, h.output, h.size, fun k hk => h.block k (Nat.lt_of_lt_of_le hk hb.size) (fun e => by injection e with e; omega)⟩
/-- The two rows put together, as far as they are. -/
def BoJ (a b : List Int) (w : World) (k : Nat) (v : Value) (wr : World) : Prop :=
  (∀ j, j < k → Mid (a.getD j 0) ∧ Mid (b.getD j 0)) ∧ wr.ownsRow w.heap.size 2 1 v k (iCells (bothTo a b k)) ∧ Below w.heap.size w wr
set_option maxHeartbeats 4000000 in
set_option maxRecDepth 100000 in
theorem back_walk (A B : Option Addr) (ca cb : Nat) (a b : List Int) (n : Nat) (hn : n < 256) (ha : a.length ≤ 100) (hbl : b.length ≤ 100) (hra : ∀ p ∈ a, rg p) (hrb : ∀ p ∈ b, rg p) (w : World) (RA : NRow w A a) (RB : NRow w B b) (hA : A = none → a.length = 0 ∧ ca = 0) :
    Calls Try.prog 4 #[.slice A a.length ca, .slice B b.length cb, .int .u8 n] w fun e w' => e = .returned (.bool true) ∧ Below w.heap.size w w' := by
  have HRA := Lib.hid RA
  have HRB := Lib.hid RB
  have hla : (a.length : Int) ≤ 100 := by omega
  have hlb : (b.length : Int) ≤ 100 := by omega
  obtain ⟨i0, hi, hz0, hz1, hz2⟩ := info_parts infoI64
  have HI := Lib.hid (And.intro hi (And.intro hz0 (And.intro hz1 hz2)))
  have HHA := Lib.hid hA
  have HPA := Lib.hid hra
  have HPB := Lib.hid hrb
  clear hi hz0 hz1 hz2 RA RB hA hra hrb
  obtain ⟨M, hM⟩ : ∃ M, max a.length b.length = M := ⟨_, rfl⟩
  have hM1 : M ≤ 100 := by omega
  have hM2 : a.length ≤ M := by omega
  have hM3 : b.length ≤ M := by omega
  have hmx : ∀ (W : World) (ts : Array TypeId) (t : TypeId), (Builtin.max_ ts t #[.int .i64 (a.length : Int), .int .i64 (b.length : Int)]).run Try.prog W = .ok (.int .i64 (M : Int)) W := fun W ts t => by
    have e : (if (b.length : Int) > (a.length : Int) then (b.length : Int) else (a.length : Int)) = (M : Int) := by split <;> omega
    rw [run_max_int2 W ts t .i64 .i64, e]
  have HMX := Lib.hid hM
  clear hM
  go_enter Try.func4, Try.ntmps4
  go_wp2_with (go_at_call 6; refine (awake33_any _).mono ?_; rintro e w1 ⟨rfl, hb1⟩; have HB1 := Lib.hid hb1; clear hb1)
  go_loopw [7, 40] (fun v i wr => ∃ k : Nat, k ≤ M ∧ i = .int .i64 k ∧ BoJ a b w k v wr) (fun _ i _ => M - (intOf i).toNat)
  case atStart => exact ⟨0, by omega, rfl, fun j hj => absurd hj (by omega), World.ownsRow_nil _ _ _ _, HB1.out⟩
  case round =>
    clear HB1
    obtain ⟨k, hk, rfl, hmid, hown, hb⟩ := hrel
    have HO := Lib.hid hown
    have HM := Lib.hid hmid
    clear hown hmid
    by_cases h1 : k < M
    · have h1' : (k : Int) < (M : Int) := by omega
      have hsz := hb.size
      obtain ⟨t0, t1⟩ := two_rows wr (.slice A a.length ca) (.slice B b.length cb) 22
      have NA := Lib.hid ((HRA.out.below hb).alloc (.cells #[.slice A a.length ca, .slice B b.length cb] 22))
      have NB := Lib.hid ((HRB.out.below hb).alloc (.cells #[.slice A a.length ca, .slice B b.length cb] 22))
      go_wp2
      go_loop [9, 47] (fun s i => (i = .int .i64 0 ∧ s = .int .i64 0) ∨ (i = .int .i64 1 ∧ s = .int .i64 (a.getD k 0) ∧ Mid (a.getD k 0)) ∨ (i = .int .i64 2 ∧ s = .int .i64 (a.getD k 0 + b.getD k 0) ∧ Mid (a.getD k 0) ∧ Mid (b.getD k 0))) (fun _ i => 2 - (intOf i).toNat)
      case atStart => exact .inl ⟨rfl, rfl⟩
      case round =>
        rcases hrel with ⟨rfl, rfl⟩ | ⟨rfl, rfl, hma⟩ | ⟨rfl, rfl, hma, hmb⟩
        · -- the row a
          by_cases hin : k < a.length
          · have hin' : (k : Int) < (a.length : Int) := by omega
            obtain ⟨aa, hAA, hab, hc⟩ := NA.out (by omega)
            subst hAA
            have x0 := hc k hin
            have hg : a.getD k 0 = a[k] := by rw [List.getD_eq_getElem?_getD, List.getElem?_eq_getElem hin]; rfl
            have hrg := HPA.out a[k] (List.getElem_mem hin)
            have HG := Lib.hid hg
            have HRG := Lib.hid hrg
            clear hc hg hrg
            generalize a[k] = x at *
            by_cases m1 : 1099511627776 < x
            · go_wp2
              go_ret
              exact ⟨rfl, hb.alloc hsz _⟩
            · by_cases m2 : x < -1099511627776
              · go_wp2
                go_ret
                exact ⟨rfl, hb.alloc hsz _⟩
              · have m3 : x ≤ 1099511627776 := by omega
                have m4 : -1099511627776 ≤ x := by omega
                go_wp2
                go_round
                case rel => exact .inr (.inl ⟨rfl, by rw [HG.out], by rw [HG.out]; exact ⟨m4, m3⟩⟩)
                case measure => simp [intOf]
          · have hin' : ¬ (k : Int) < (a.length : Int) := by omega
            have hg : a.getD k 0 = 0 := by rw [List.getD_eq_getElem?_getD, List.getElem?_eq_none (by omega)]; rfl
            have HG := Lib.hid hg
            clear hg
            go_wp2
            go_round
            case rel => exact .inr (.inl ⟨rfl, by rw [HG.out], by rw [HG.out]; exact ⟨by decide, by decide⟩⟩)
            case measure => simp [intOf]
        · have HMA := Lib.hid hma
          clear hma
          obtain ⟨p1, p2⟩ := HMA.out
          generalize hga : a.getD k 0 = ga at *
          by_cases hin : k < b.length
          · have hin' : (k : Int) < (b.length : Int) := by omega
            obtain ⟨aa, hAA, hab, hc⟩ := NB.out (by omega)
            subst hAA
            have x0 := hc k hin
            have hg : b.getD k 0 = b[k] := by rw [List.getD_eq_getElem?_getD, List.getElem?_eq_getElem hin]; rfl
            have hrg := HPB.out b[k] (List.getElem_mem hin)
            have HG := Lib.hid hg
            have HRG := Lib.hid hrg
            clear hc hg hrg
            generalize b[k] = x at *
            by_cases m1 : 1099511627776 < x
            · go_wp2
              go_ret
              exact ⟨rfl, hb.alloc hsz _⟩
            · by_cases m2 : x < -1099511627776
              · go_wp2
                go_ret
                exact ⟨rfl, hb.alloc hsz _⟩
              · have m3 : x ≤ 1099511627776 := by omega
                have m4 : -1099511627776 ≤ x := by omega
                go_wp2
                go_round
                case rel => exact .inr (.inr ⟨rfl, by rw [HG.out], HMA.out, by rw [HG.out]; exact ⟨m4, m3⟩⟩)
                case measure => simp [intOf]
          · have hin' : ¬ (k : Int) < (b.length : Int) := by omega
            have hg : b.getD k 0 = 0 := by rw [List.getD_eq_getElem?_getD, List.getElem?_eq_none (by omega)]; rfl
            have HG := Lib.hid hg
            clear hg
            go_wp2
            go_round
            case rel => exact .inr (.inr ⟨rfl, by rw [HG.out]; simp, HMA.out, by rw [HG.out]; exact ⟨by decide, by decide⟩⟩)
            case measure => simp [intOf]
        · have HMA := Lib.hid hma
          have HMB := Lib.hid hmb
          clear hma hmb
          have HBO := Lib.hid (bothTo_succ a b k)
          have hnew : ∀ (sm : Int), ∀ j u, [Value.int .i64 sm][j]? = some u → ((wr.alloc (.cells #[.slice A a.length ca, .slice B b.length cb] 22)).alloc (.cells #[.int .i64 sm] 2)).cell? ((⟨wr.heap.size + 1, 0, none⟩ : Addr).add j) = some u := fun sm => by
            have h := news_one (wr.alloc (.cells #[.slice A a.length ca, .slice B b.length cb] 22)) (.int .i64 sm) 2
            rw [show (wr.alloc (.cells #[.slice A a.length ca, .slice B b.length cb] 22)).heap.size = wr.heap.size + 1 by simp] at h
            exact h
          have HNW := Lib.hid hnew
          clear hnew t0 t1 NA NB
          generalize hsm : a.getD k 0 + b.getD k 0 = sm at *
          have HSM := Lib.hid hsm
          clear hsm
          go_wp2_with (first
            | (at_builtin
               refine wpList_append_lies _ rfl _ _ 22 rfl w.heap.size 2 i0 _ 1 8 Try.underlying22 HI.out.1 HI.out.2.1 HI.out.2.2.1 HI.out.2.2.2 rfl (by decide) u7 k (iCells (bothTo a b k)) rfl ((HO.out.alloc _).alloc _) ⟨wr.heap.size + 1, 0, none⟩ 1 1 [.int .i64 sm] rfl rfl (HNW.out sm) (by simp [Value.oneCell']) (by omega) (by unfold maxLen; omega) (by omega) (by simp; omega) (wr.heap.size + 2) (by simp) ?_
               intro g cap w4 hown4 hgrow4 hwhere hlt4
               have HE := Lib.hid (And.intro hown4 hgrow4)
               clear hown4 hgrow4 hwhere hlt4))
          go_roundw
          case rel =>
            refine ⟨k + 1, by omega, by go_num, fun j hj => ?_, ?_, below_own ((hb.alloc hsz _).alloc (by simp; omega) _) ((HO.out.alloc _).alloc _) HE.out.2⟩
            · rcases Nat.lt_or_ge j k with h | h
              · exact HM.out j h
              · obtain rfl : j = k := by omega
                exact ⟨HMA.out, HMB.out⟩
            · rw [HBO.out, iCells_snoc]; exact HE.out.1
          case measure => simp [intOf]; omega
    · obtain rfl : k = M := by omega
      obtain ⟨T1, T2, T3, T4, T5, T6⟩ := bk_facts a b n k hn ha hbl HMX.out HM.out
      have hsum := smk_both_all a b
      rw [HMX.out] at hsum
      have hlen := bothTo_len a b k
      have hshift := fun j hj => smk_later n a a.length j hj
      rw [← later_len] at hshift
      have hlen2 := later_len n a
      have hown := HO.out
      have hown2 : wr.ownsRow w.heap.size 2 1 u7 (bothTo a b k).length (iCells (bothTo a b k)) := by rw [hlen]; exact hown
      obtain ⟨A3, c3, rfl, hnx⟩ := inrow_of hown2
      have cA : Hid (∀ W : World, NRow W A a → Calls Try.prog 7 #[.slice A a.length ca] W (OfY a W)) := fun W R => of_yes A ca a (by omega) HPA.out T1 W R
      have cB : Hid (∀ W : World, NRow W B b → Calls Try.prog 7 #[.slice B b.length cb] W (OfY b W)) := fun W R => of_yes B cb b (by omega) HPB.out T2 W R
      have cX : Hid (∀ W : World, NRow W A3 (bothTo a b k) → Calls Try.prog 7 #[.slice A3 (bothTo a b k).length c3] W (OfY (bothTo a b k) W)) := fun W R => of_yes A3 c3 _ (by omega) T5 T3 W R
      have cL : Hid (∀ (W : World) (A4 : Option Addr) (c4 : Nat), NRow W A4 (laterL n a) → Calls Try.prog 7 #[.slice A4 (laterL n a).length c4] W (OfY (laterL n a) W)) := fun W A4 c4 R => of_yes A4 c4 _ (by omega) T6 T4 W R
      have cS : Hid (∀ W : World, NRow W A a → Calls Try.prog 8 #[.slice A a.length ca] W (RsY a W)) := fun W R => rsums_yes A ca a (by omega) HPA.out T1 W R
      have za : szs (smk a a.length) 4 ≤ 1125899906842624 := Nat.le_trans (smk_le _ _) T1
      have zx : szs (smk (bothTo a b k) k) 4 ≤ 1125899906842624 := by rw [hlen] at T3; exact Nat.le_trans (smk_le _ _) T3
      generalize bothTo a b k = X at *
      rw [← hlen] at hsum zx
      generalize hsa : smk a a.length = sa at *
      generalize hsb : smk b b.length = sb at *
      generalize hsx : smk X X.length = sx at *
      generalize hsl : smk (laterL n a) (laterL n a).length = sl at *
      have hr4 : n % 4 < 4 := Nat.mod_lt _ (by decide)
      have cP : Hid (∀ (W : World) (f g : Nat → Cw), WF f (wre sa) (wim sa) → WF g (wre sb) (wim sb) → Calls Try.prog 12 #[.agg #[.complex .f64 (f 0).re (f 0).im, .complex .f64 (f 1).re (f 1).im, .complex .f64 (f 2).re (f 2).im, .complex .f64 (f 3).re (f 3).im], .agg #[.complex .f64 (g 0).re (g 0).im, .complex .f64 (g 1).re (g 1).im, .complex .f64 (g 2).re (g 2).im, .complex .f64 (g 3).re (g 3).im]] W fun e w' => e = .returned (.agg #[.complex .f64 (plusW f g 0).re (plusW f g 0).im, .complex .f64 (plusW f g 1).re (plusW f g 1).im, .complex .f64 (plusW f g 2).re (plusW f g 2).im, .complex .f64 (plusW f g 3).re (plusW f g 3).im]) ∧ Below W.heap.size W w') := fun W f g hf hg => plus_any f g _ _ _ _ hf hg (wf_plus hf hg (fun j _ => hsum j) zx).2 W
      have cT : Hid (∀ (W : World) (f : Nat → Cw), WF f (wre sa) (wim sa) → Calls Try.prog 13 #[.agg #[.complex .f64 (f 0).re (f 0).im, .complex .f64 (f 1).re (f 1).im, .complex .f64 (f 2).re (f 2).im, .complex .f64 (f 3).re (f 3).im], .int .i64 n] W fun e w' => e = .returned (.agg #[.complex .f64 (laterW (n % 4) f 0).re (laterW (n % 4) f 0).im, .complex .f64 (laterW (n % 4) f 1).re (laterW (n % 4) f 1).im, .complex .f64 (laterW (n % 4) f 2).re (laterW (n % 4) f 2).im, .complex .f64 (laterW (n % 4) f 3).re (laterW (n % 4) f 3).im]) ∧ Below W.heap.size W w') := fun W f hf => by
        have h := later_any f _ _ hf (fun j hj => wf_in sa za j hj) (n : Int) (by omega) (by omega) W
        rw [show ((n : Int) % 4).toNat = n % 4 by omega] at h
        exact h
      have cK : Hid (∀ (W : World) (f : Nat → Cw), WF f (wre sa) (wim sa) → Calls Try.prog 11 #[.agg #[.complex .f64 (f 0).re (f 0).im, .complex .f64 (f 1).re (f 1).im, .complex .f64 (f 2).re (f 2).im, .complex .f64 (f 3).re (f 3).im]] W fun e w' => e = .returned (.tuple #[.agg #[.int .i64 (sa 0), .int .i64 (sa 1), .int .i64 (sa 2), .int .i64 (sa 3)], .bool true]) ∧ Below W.heap.size W w') := fun W f hf => back_yes f _ _ hf (fun j hj => wf_in sa za j hj) sa (fun p hp => q_back sa p hp) W
      have wp : Hid (∀ (f g : Nat → Cw), WF f (wre sa) (wim sa) → WF g (wre sb) (wim sb) → WF (plusW f g) (wre sx) (wim sx)) := fun f g hf hg => (wf_plus hf hg (fun j _ => hsum j) zx).1
      have wl : Hid (∀ (f : Nat → Cw), WF f (wre sa) (wim sa) → WF (laterW (n % 4) f) (wre sl) (wim sl)) := fun f hf => wf_later hr4 hf za hshift
      have hmk := run_make_row' (P := Try.prog) 22 2 (.int .i64 0) 8 Try.underlying22 infoI64 rfl .u8 .u8 n (by omega) (by omega)
      have HSA := Lib.hid hsa
      have HSB := Lib.hid hsb
      have HSX := Lib.hid hsx
      have HSL := Lib.hid hsl
      have HNX := Lib.hid hnx
      have HB := Lib.hid hb
      have RA1 := Lib.hid (HRA.out.below hb)
      have RB1 := Lib.hid (HRB.out.below hb)
      have HL2 := Lib.hid hlen2
      have hic : iCells (List.replicate n 0) ++ iCells a = iCells (laterL n a) := by unfold iCells laterL; simp
      have HIC := Lib.hid hic
      clear T1 T2 T3 T4 T5 T6 hlen hlen2 hshift hsum hown hown2 zx za hsa hsb hsx hsl hnx hb HO HM h1 hk hic hr4
      go_wp2_with (first
        | (go_at_call 7; (with_reducible refine (cA.out _ RA1.out).mono ?_); rintro e w2 ⟨gv, rfl, hg, hb2⟩; rw [HSA.out] at hg; have HGV := Lib.hid hg; have RA2 := Lib.hid (RA1.out.below hb2); have RB2 := Lib.hid (RB1.out.below hb2); have NX2 := Lib.hid (HNX.out.below hb2); have V2 := Lib.hid (B4.new w2 (fcv gv) 26); have HB2 := Lib.hid hb2; clear hg hb2)
        | (go_at_call 7; have Z := RB2; (with_reducible refine (cB.out _ (NRow.alloc RB2.out _)).mono ?_); rintro e w3 ⟨gb, rfl, hg, hb3⟩; rw [HSB.out] at hg; have HGB := Lib.hid hg; have RA3 := Lib.hid ((RA2.out.alloc (.cells #[fcv gv 0, fcv gv 1, fcv gv 2, fcv gv 3] 26)).below hb3); have NX3 := Lib.hid ((NX2.out.alloc (.cells #[fcv gv 0, fcv gv 1, fcv gv 2, fcv gv 3] 26)).below hb3); have V3 := Lib.hid (V2.out.on hb3); have U3 := Lib.hid (B4.new w3 (fcv gb) 26); have HB3 := Lib.hid hb3; clear hg hb3)
        | (go_at_call 7; have Z := NX3; (with_reducible refine (cX.out _ (NRow.alloc NX3.out _)).mono ?_); rintro e w4 ⟨gx, rfl, hg, hb4⟩; rw [HSX.out] at hg; have HGX := Lib.hid hg; have RA4 := Lib.hid (((RA3.out.alloc (.cells #[fcv gb 0, fcv gb 1, fcv gb 2, fcv gb 3] 26)).below hb4)); have V4 := Lib.hid ((V3.out.one (.cells #[fcv gb 0, fcv gb 1, fcv gb 2, fcv gb 3] 26)).on hb4); have U4 := Lib.hid (U3.out.on hb4); have X4 := Lib.hid (B4.new w4 (fcv gx) 26); have HB4 := Lib.hid hb4; have OW4 := Lib.hid (own_made (w4.alloc (.cells #[fcv gx 0, fcv gx 1, fcv gx 2, fcv gx 3] 26)) n hn); clear hg hb4)
        | (at_builtin; have Z := OW4
           refine append_row rfl (.tmp 96) (.tmp 97) rfl (w4.heap.size + 1) (.slice (some ⟨w4.heap.size + 1, 0, none⟩) n n) n (iCells (List.replicate n 0)) rfl (by have h := OW4.out; rw [show (w4.alloc (.cells #[fcv gx 0, fcv gx 1, fcv gx 2, fcv gx 3] 26)).heap.size = w4.heap.size + 1 by simp] at h; exact h) A ca a rfl (NRow.alloc (NRow.alloc RA4.out _) _) HHA.out (by omega) (by simp) ?_
           intro v' w5 hown5 hgrow5
           have hown6 : w5.ownsRow (w4.heap.size + 1) 2 1 v' (laterL n a).length (iCells (laterL n a)) := by
             rw [HL2.out, ← HIC.out]; exact hown5
           obtain ⟨A4, c4, hv', hnl⟩ := inrow_of hown6
           subst hv'
           have hb5 : Below (w4.alloc (.cells #[fcv gx 0, fcv gx 1, fcv gx 2, fcv gx 3] 26)).heap.size (w4.alloc (.cells #[fcv gx 0, fcv gx 1, fcv gx 2, fcv gx 3] 26)) w5 := below_made (W := w4.alloc (.cells #[fcv gx 0, fcv gx 1, fcv gx 2, fcv gx 3] 26)) (by simp) hgrow5
           have NL5 := Lib.hid hnl
           have RA5 := Lib.hid ((RA4.out.alloc (.cells #[fcv gx 0, fcv gx 1, fcv gx 2, fcv gx 3] 26)).below hb5)
           have V5 := Lib.hid ((V4.out.one (.cells #[fcv gx 0, fcv gx 1, fcv gx 2, fcv gx 3] 26)).on hb5)
           have U5 := Lib.hid ((U4.out.one (.cells #[fcv gx 0, fcv gx 1, fcv gx 2, fcv gx 3] 26)).on hb5)
           have X5 := Lib.hid (X4.out.on hb5)
           have HB5 := Lib.hid hb5
           clear hown5 hgrow5 hown6 hnl hb5)
        | (go_at_call 7; have Z := NL5; (with_reducible refine (cL.out _ A4 c4 NL5.out).mono ?_); rintro e w6 ⟨gl, rfl, hg, hb6⟩; rw [HSL.out] at hg; have HGL := Lib.hid hg; have RA6 := Lib.hid (RA5.out.below hb6); have V6 := Lib.hid (V5.out.on hb6); have U6 := Lib.hid (U5.out.on hb6); have X6 := Lib.hid (X5.out.on hb6); have L6 := Lib.hid (B4.new w6 (fcv gl) 26); have HB6 := Lib.hid hb6; have v0 := V6.out.cx (j := 0) (by decide); have v1 := V6.out.cx (j := 1) (by decide); have v2 := V6.out.cx (j := 2) (by decide); have v3 := V6.out.cx (j := 3) (by decide); have lv6 := V6.out.1; clear hg hb6)
        | (go_at_call 11; (with_reducible refine (cK.out _ gv HGV.out).mono ?_); rintro e w7 ⟨rfl, hb7⟩; have RA7 := Lib.hid ((RA6.out.alloc (.cells #[fcv gl 0, fcv gl 1, fcv gl 2, fcv gl 3] 26)).below hb7); have V7 := Lib.hid ((V6.out.one (.cells #[fcv gl 0, fcv gl 1, fcv gl 2, fcv gl 3] 26)).on hb7); have U7 := Lib.hid ((U6.out.one (.cells #[fcv gl 0, fcv gl 1, fcv gl 2, fcv gl 3] 26)).on hb7); have X7 := Lib.hid ((X6.out.one (.cells #[fcv gl 0, fcv gl 1, fcv gl 2, fcv gl 3] 26)).on hb7); have L7 := Lib.hid (L6.out.on hb7); have I7 := Lib.hid (B4.new w7 (ival sa) 37); have HB7 := Lib.hid hb7; clear hb7)
        | (go_at_call 8; (with_reducible refine (cS.out _ (NRow.alloc RA7.out _)).mono ?_); rintro e w8 ⟨bS, rfl, hbl, hBS, hb8⟩; rw [HSA.out] at hBS; have S8 := Lib.hid hBS; have V8 := Lib.hid ((V7.out.one (.cells #[ival sa 0, ival sa 1, ival sa 2, ival sa 3] 37)).on hb8); have U8 := Lib.hid ((U7.out.one (.cells #[ival sa 0, ival sa 1, ival sa 2, ival sa 3] 37)).on hb8); have X8 := Lib.hid ((X7.out.one (.cells #[ival sa 0, ival sa 1, ival sa 2, ival sa 3] 37)).on hb8); have L8 := Lib.hid ((L7.out.one (.cells #[ival sa 0, ival sa 1, ival sa 2, ival sa 3] 37)).on hb8); have I8 := Lib.hid (I7.out.on hb8); have HB8 := Lib.hid hb8; clear hBS hb8 hbl))
      have cP1 : Hid (∀ W : World, Calls Try.prog 12 #[.agg #[.complex .f64 (gv 0).re (gv 0).im, .complex .f64 (gv 1).re (gv 1).im, .complex .f64 (gv 2).re (gv 2).im, .complex .f64 (gv 3).re (gv 3).im], .agg #[.complex .f64 (gb 0).re (gb 0).im, .complex .f64 (gb 1).re (gb 1).im, .complex .f64 (gb 2).re (gb 2).im, .complex .f64 (gb 3).re (gb 3).im]] W fun e w' => e = .returned (.agg #[.complex .f64 (plusW gv gb 0).re (plusW gv gb 0).im, .complex .f64 (plusW gv gb 1).re (plusW gv gb 1).im, .complex .f64 (plusW gv gb 2).re (plusW gv gb 2).im, .complex .f64 (plusW gv gb 3).re (plusW gv gb 3).im]) ∧ Below W.heap.size W w') := fun W => cP.out W gv gb HGV.out HGB.out
      have cT1 : Hid (∀ W : World, Calls Try.prog 13 #[.agg #[.complex .f64 (gv 0).re (gv 0).im, .complex .f64 (gv 1).re (gv 1).im, .complex .f64 (gv 2).re (gv 2).im, .complex .f64 (gv 3).re (gv 3).im], .int .i64 n] W fun e w' => e = .returned (.agg #[.complex .f64 (laterW (n % 4) gv 0).re (laterW (n % 4) gv 0).im, .complex .f64 (laterW (n % 4) gv 1).re (laterW (n % 4) gv 1).im, .complex .f64 (laterW (n % 4) gv 2).re (laterW (n % 4) gv 2).im, .complex .f64 (laterW (n % 4) gv 3).re (laterW (n % 4) gv 3).im]) ∧ Below W.heap.size W w') := fun W => cT.out W gv HGV.out
      have hq1 : ∀ W : World, (Op.equalIn 10000 26 (.agg #[.complex .f64 (plusW gv gb 0).re (plusW gv gb 0).im, .complex .f64 (plusW gv gb 1).re (plusW gv gb 1).im, .complex .f64 (plusW gv gb 2).re (plusW gv gb 2).im, .complex .f64 (plusW gv gb 3).re (plusW gv gb 3).im]) (.agg #[.complex .f64 (gx 0).re (gx 0).im, .complex .f64 (gx 1).re (gx 1).im, .complex .f64 (gx 2).re (gx 2).im, .complex .f64 (gx 3).re (gx 3).im])).run Try.prog W = .ok true W := fun W => by
        have h := equal_wave (plusW gv gb) gx W
        rw [weq_yes (wp.out gv gb HGV.out HGB.out) HGX.out] at h; exact h
      have hq2 : ∀ W : World, (Op.equalIn 10000 26 (.agg #[.complex .f64 (laterW (n % 4) gv 0).re (laterW (n % 4) gv 0).im, .complex .f64 (laterW (n % 4) gv 1).re (laterW (n % 4) gv 1).im, .complex .f64 (laterW (n % 4) gv 2).re (laterW (n % 4) gv 2).im, .complex .f64 (laterW (n % 4) gv 3).re (laterW (n % 4) gv 3).im]) (.agg #[.complex .f64 (gl 0).re (gl 0).im, .complex .f64 (gl 1).re (gl 1).im, .complex .f64 (gl 2).re (gl 2).im, .complex .f64 (gl 3).re (gl 3).im])).run Try.prog W = .ok true W := fun W => by
        have h := equal_wave (laterW (n % 4) gv) gl W
        rw [weq_yes (wl.out gv HGV.out) HGL.out] at h; exact h
      have HBW : Hid (Below w.heap.size w w8) := by
        have q1 := HB.out.trans (HB2.out.mono HB.out.size)
        have q2 := q1.alloc q1.size (.cells #[fcv gv 0, fcv gv 1, fcv gv 2, fcv gv 3] 26)
        have q3 := q2.trans (HB3.out.mono q2.size)
        have q4 := q3.alloc q3.size (.cells #[fcv gb 0, fcv gb 1, fcv gb 2, fcv gb 3] 26)
        have q5 := q4.trans (HB4.out.mono q4.size)
        have q6 := q5.alloc q5.size (.cells #[fcv gx 0, fcv gx 1, fcv gx 2, fcv gx 3] 26)
        have q7 := q6.trans (HB5.out.mono q6.size)
        have q8 := q7.trans (HB6.out.mono q7.size)
        have q9 := q8.alloc q8.size (.cells #[fcv gl 0, fcv gl 1, fcv gl 2, fcv gl 3] 26)
        have q10 := q9.trans (HB7.out.mono q9.size)
        have q11 := q10.alloc q10.size (.cells #[ival sa 0, ival sa 1, ival sa 2, ival sa 3] 37)
        exact q11.trans (HB8.out.mono q11.size)
      generalize plusW gv gb = gp at *
      generalize laterW (n % 4) gv = gt at *
      have C16 : Hid (∀ wx : World, Below w8.heap.size w8 wx → wx.cell? ⟨w2.heap.size, 0, none⟩ = some (.complex .f64 (gv 0).re (gv 0).im) ∧ wx.cell? ⟨w2.heap.size, 1, none⟩ = some (.complex .f64 (gv 1).re (gv 1).im) ∧ wx.cell? ⟨w2.heap.size, 2, none⟩ = some (.complex .f64 (gv 2).re (gv 2).im) ∧ wx.cell? ⟨w2.heap.size, 3, none⟩ = some (.complex .f64 (gv 3).re (gv 3).im) ∧ wx.cell? ⟨w3.heap.size, 0, none⟩ = some (.complex .f64 (gb 0).re (gb 0).im) ∧ wx.cell? ⟨w3.heap.size, 1, none⟩ = some (.complex .f64 (gb 1).re (gb 1).im) ∧ wx.cell? ⟨w3.heap.size, 2, none⟩ = some (.complex .f64 (gb 2).re (gb 2).im) ∧ wx.cell? ⟨w3.heap.size, 3, none⟩ = some (.complex .f64 (gb 3).re (gb 3).im) ∧ wx.cell? ⟨w4.heap.size, 0, none⟩ = some (.complex .f64 (gx 0).re (gx 0).im) ∧ wx.cell? ⟨w4.heap.size, 1, none⟩ = some (.complex .f64 (gx 1).re (gx 1).im) ∧ wx.cell? ⟨w4.heap.size, 2, none⟩ = some (.complex .f64 (gx 2).re (gx 2).im) ∧ wx.cell? ⟨w4.heap.size, 3, none⟩ = some (.complex .f64 (gx 3).re (gx 3).im) ∧ wx.cell? ⟨w6.heap.size, 0, none⟩ = some (.complex .f64 (gl 0).re (gl 0).im) ∧ wx.cell? ⟨w6.heap.size, 1, none⟩ = some (.complex .f64 (gl 1).re (gl 1).im) ∧ wx.cell? ⟨w6.heap.size, 2, none⟩ = some (.complex .f64 (gl 2).re (gl 2).im) ∧ wx.cell? ⟨w6.heap.size, 3, none⟩ = some (.complex .f64 (gl 3).re (gl 3).im)) := fun wx hx => by
        have V := V8.out.on hx
        have U := U8.out.on hx
        have X := X8.out.on hx
        have L := L8.out.on hx
        exact ⟨V.cx (by decide), V.cx (by decide), V.cx (by decide), V.cx (by decide), U.cx (by decide), U.cx (by decide), U.cx (by decide), U.cx (by decide), X.cx (by decide), X.cx (by decide), X.cx (by decide), X.cx (by decide), L.cx (by decide), L.cx (by decide), L.cx (by decide), L.cx (by decide)⟩
      have B0 : Hid (Below w8.heap.size w8 w8) := Below.refl _ _
      clear cP cT cK cA cB cX cL cS wp wl HB HB2 HB3 HB4 HB5 HB6 HB7 HB8 RA1 RB1 RA2 RB2 NX2 HNX RA3 NX3 RA4 RA5 RA6 RA7 NL5 OW4 V2 V3 V4 V5 V6 V7 U3 U4 U5 U6 U7 X4 X5 X6 X7 L6 L7 HGV HGB HGX HGL HIC HL2 hmk hmx v0 v1 v2 v3 lv6 I7
      have hwn : IntKind.i64.wrap (n : Int) = (n : Int) := IntWalk.i64_in _ (by omega)
      go_region_held_law (fun wx => wx.cell? ⟨w2.heap.size, 0, none⟩ = some (.complex .f64 (gv 0).re (gv 0).im) ∧ wx.cell? ⟨w2.heap.size, 1, none⟩ = some (.complex .f64 (gv 1).re (gv 1).im) ∧ wx.cell? ⟨w2.heap.size, 2, none⟩ = some (.complex .f64 (gv 2).re (gv 2).im) ∧ wx.cell? ⟨w2.heap.size, 3, none⟩ = some (.complex .f64 (gv 3).re (gv 3).im) ∧ wx.cell? ⟨w3.heap.size, 0, none⟩ = some (.complex .f64 (gb 0).re (gb 0).im) ∧ wx.cell? ⟨w3.heap.size, 1, none⟩ = some (.complex .f64 (gb 1).re (gb 1).im) ∧ wx.cell? ⟨w3.heap.size, 2, none⟩ = some (.complex .f64 (gb 2).re (gb 2).im) ∧ wx.cell? ⟨w3.heap.size, 3, none⟩ = some (.complex .f64 (gb 3).re (gb 3).im) ∧ wx.cell? ⟨w4.heap.size, 0, none⟩ = some (.complex .f64 (gx 0).re (gx 0).im) ∧ wx.cell? ⟨w4.heap.size, 1, none⟩ = some (.complex .f64 (gx 1).re (gx 1).im) ∧ wx.cell? ⟨w4.heap.size, 2, none⟩ = some (.complex .f64 (gx 2).re (gx 2).im) ∧ wx.cell? ⟨w4.heap.size, 3, none⟩ = some (.complex .f64 (gx 3).re (gx 3).im) ∧ wx.cell? ⟨w6.heap.size, 0, none⟩ = some (.complex .f64 (gl 0).re (gl 0).im) ∧ wx.cell? ⟨w6.heap.size, 1, none⟩ = some (.complex .f64 (gl 1).re (gl 1).im) ∧ wx.cell? ⟨w6.heap.size, 2, none⟩ = some (.complex .f64 (gl 2).re (gl 2).im) ∧ wx.cell? ⟨w6.heap.size, 3, none⟩ = some (.complex .f64 (gl 3).re (gl 3).im))
        (first | exact C16.out _ B0.out | exact C16.out _ B0.out.drew | exact C16.out _ B1.out | exact C16.out _ B1.out.drew | exact C16.out _ B2.out | exact C16.out _ B2.out.drew)
        (first
          | (go_at_call 13; have Z := B1; (with_reducible refine (cT1.out _).mono ?_); rintro e w10 ⟨rfl, hb10⟩; have B2 := Lib.hid (B1.out.trans (hb10.mono B1.out.size)); clear hb10)
          | (go_at_call 12; (with_reducible refine (cP1.out _).mono ?_); rintro e w9 ⟨rfl, hb9⟩; have B1 := Lib.hid (B0.out.drew.trans (hb9.mono B0.out.drew.size)); clear hb9))
      have HBX := Lib.hid (HBW.out.trans (B2.out.mono HBW.out.size))
      have I10 := Lib.hid (I8.out.on B2.out)
      have S10 := Lib.hid (S8.out.on B2.out)
      clear B0 B1 B2 I8 S8 V8 U8 X8 L8 HBW C16 hq1 hq2 cP1 cT1
      go_wp2
      go_loopw [150] (fun i wr => ∃ p : Nat, p ≤ 4 ∧ i = .int .i64 p ∧ Below w.heap.size w wr ∧ B4 wr w7.heap.size (ival sa) ∧ B4 wr bS (ival sa)) (fun i _ => 4 - (intOf i).toNat)
      case atStart => exact ⟨0, by omega, rfl, HBX.out, I10.out, S10.out⟩
      case round =>
        clear HBX I10 S10
        obtain ⟨p, hp, rfl, hb, hi4, hs4⟩ := hrel
        have I1 := Lib.hid hi4
        have S1 := Lib.hid hs4
        clear hi4 hs4
        by_cases h4 : p < 4
        · have h4' : (p : Int) < 4 := by omega
          have c1 : wr.cell? ⟨w7.heap.size, p, none⟩ = some (.int .i64 (sa p)) := (I1.out.2 p h4).1
          have c2 : wr.cell? ⟨bS, p, none⟩ = some (.int .i64 (sa p)) := (S1.out.2 p h4).1
          generalize sa p = sap at *
          go_wp2
          go_quiet (fail)
          go_wp2
          go_roundw
          case rel => exact ⟨p + 1, by omega, by go_num, ⟨hb.os, hb.tape, hb.output, hb.size, hb.block⟩, I1.out, S1.out⟩
          case measure => simp [intOf]; omega
        · obtain rfl : p = 4 := by omega
          go_wp2
          go_ret
          exact ⟨rfl, hb⟩
end Go.Proofs.Ytmecpbgjienidaa
