/-
  Two rows of candles held to be one, how far a candle went, the chapter's example: walked. Conditions: as each theorem states.
-/
import Derived.Test.YtfgahmkfhlbogaaCaM
import Derived.Test.YtfgahmkfhlbogaaCaI
namespace Go.Proofs.Ytfgahmkfhlbogaa.Ca
open Go.RowKit Go.Shelf
open Go.Proofs.Ytfgahmkfhlbogaa Go.Proofs.Ytfgahmkfhlbogaa.Hx

theorem rof_none (v0 v1 : Value) (m : Int) (hm : m < 1) (w : World) : Calls Try.prog 9 #[v0, v1, .int .i64 m] w (SpQ ([], 2) w) := by
  go_enter Try.func9, Try.ntmps9
  go_wp2
  go_ret2
  exact ⟨none, 0, rfl, fun h => by simp at h, fun _ => ⟨rfl, rfl⟩, ⟨by simp, by unfold maxLen; omega⟩, Below.refl _ _⟩
theorem rof_any (Ap As : Option Addr) (cp cs : Nat) (l : List Tk) (hl : l.length ≤ 1000) (hcp : l.length ≤ cp) (hcs : l.length ≤ cs) (hok : ∀ x ∈ l, Am.rg x.p ∧ Am.rg x.s) (m : Int) (w : World) (RP : NRow w Ap (l.map (·.p))) (RS : NRow w As (l.map (·.s))) :
    Calls Try.prog 9 #[.slice Ap l.length cp, .slice As l.length cs, .int .i64 m] w (SpQ (ofM tkd l m) w) := by
  unfold ofM
  by_cases h : m < 1
  · rw [if_pos h]; exact rof_none _ _ m h w
  · rw [if_neg h]
    have h2 := rof_some Ap As cp cs l hl hcp hcs hok m.toNat (by omega) w RP RS
    rwa [show ((m.toNat : Nat) : Int) = m by omega] at h2
/-! ## candles held against each other -/
theorem cdlHeld : Try.prog.stoodInHeld 42 = false := by kernel_rfl
theorem cdl_same (c : Cd) (w : World) : (Op.equalIn 10000 42 (.agg #[.int .i64 c.f, .int .i64 c.h, .int .i64 c.l, .int .i64 c.a, .int .i64 c.s, .int .i64 c.n]) (.agg #[.int .i64 c.f, .int .i64 c.h, .int .i64 c.l, .int .i64 c.a, .int .i64 c.s, .int .i64 c.n])).run Try.prog w = .ok true w := by
  rw [run_equalIn_struct w 9999 _ _ _ (by kernel_rfl) cdlHeld]
  have hf : (Try.prog.fieldsOf 42).toList.map (fun f => (f.name, f.type, f.offset)) = [("First", 2, 0), ("High", 2, 1), ("Low", 2, 2), ("Last", 2, 3), ("Size", 2, 4), ("Trades", 3, 5)] := by kernel_rfl
  generalize (Try.prog.fieldsOf 42).toList = fs at hf
  have hl : fs.length = 6 := by have := congrArg List.length hf; simpa using this
  match fs, hl, hf with
  | [f0, f1, f2, f3, f4, f5], _, hf =>
    simp only [List.map_cons, List.map_nil, List.cons.injEq, Prod.mk.injEq, and_true] at hf
    obtain ⟨⟨a0, b0, c0⟩, ⟨a1, b1, c1⟩, ⟨a2, b2, c2⟩, ⟨a3, b3, c3⟩, ⟨a4, b4, c4⟩, ⟨a5, b5, c5⟩⟩ := hf
    simp [Op.eqFields, a0, a1, a2, a3, a4, a5, b0, b1, b2, b3, b4, b5, c0, c1, c2, c3, c4, c5, part, go_sem, Try.underlying3, Try.underlying2]
theorem cdrHeld : Try.prog.stoodInHeld 55 = false := by kernel_rfl
theorem cdr_same (c : Cd) (w : World) : (Op.equalIn 10000 55 (.agg #[.int .i64 c.f, .int .i64 c.h, .int .i64 c.l, .int .i64 c.a, .int .i64 c.s, .int .i64 c.n]) (.agg #[.int .i64 c.f, .int .i64 c.h, .int .i64 c.l, .int .i64 c.a, .int .i64 c.s, .int .i64 c.n])).run Try.prog w = .ok true w := by
  rw [run_equalIn_struct w 9999 _ _ _ (by kernel_rfl) cdrHeld]
  have hf : (Try.prog.fieldsOf 55).toList.map (fun f => (f.name, f.type, f.offset)) = [("First", 2, 0), ("High", 2, 1), ("Low", 2, 2), ("Last", 2, 3), ("Size", 2, 4), ("Trades", 3, 5)] := by kernel_rfl
  generalize (Try.prog.fieldsOf 55).toList = fs at hf
  have hl : fs.length = 6 := by have := congrArg List.length hf; simpa using this
  match fs, hl, hf with
  | [f0, f1, f2, f3, f4, f5], _, hf =>
    simp only [List.map_cons, List.map_nil, List.cons.injEq, Prod.mk.injEq, and_true] at hf
    obtain ⟨⟨a0, b0, c0⟩, ⟨a1, b1, c1⟩, ⟨a2, b2, c2⟩, ⟨a3, b3, c3⟩, ⟨a4, b4, c4⟩, ⟨a5, b5, c5⟩⟩ := hf
    simp [Op.eqFields, a0, a1, a2, a3, a4, a5, b0, b1, b2, b3, b4, b5, c0, c1, c2, c3, c4, c5, part, go_sem, Try.underlying3, Try.underlying2]
def SaJ (l : List Cd) (w : World) (i : Value) (wr : World) : Prop := ∃ k : Nat, k ≤ l.length ∧ i = .int .i64 k ∧ ∃ n, wr = w.drewN n
set_option maxHeartbeats 1000000 in
theorem same_yes (A B : Option Addr) (ca cb : Nat) (l : List Cd) (hl : l.length ≤ 1000) (w : World) (RA : CRow w A l) (RB : CRow w B l) :
    Calls Try.prog 10 #[.slice A l.length ca, .slice B l.length cb] w fun e w' => e = .returned (.bool true) ∧ Below w.heap.size w w' := by
  have HRA := Lib.hid RA
  have HRB := Lib.hid RB
  have hlc : (l.length : Int) ≤ 1000 := by omega
  clear RA RB
  go_enter Try.func10, Try.ntmps10
  go_wp2
  go_loopw [13] (fun i wr => SaJ l w i wr) (fun i _ => l.length - (intOf i).toNat)
  case atStart => exact ⟨0, by omega, rfl, 0, rfl⟩
  case round =>
    obtain ⟨k, hk, rfl, n, rfl⟩ := hrel
    by_cases h1 : k < l.length
    · obtain ⟨a, rfl, hab, hca⟩ := HRA.out (by omega)
      obtain ⟨b, rfl, hbb, hcb⟩ := HRB.out (by omega)
      obtain ⟨x0, x1, x2, x3, x4, x5⟩ := hca k h1
      obtain ⟨y0, y1, y2, y3, y4, y5⟩ := hcb k h1
      have es := fun W => cdr_same l[k] W
      have hki : (0 : Int) ≤ (k : Int) := by omega
      have hkl : (k : Int) < (l.length : Int) := by omega
      have hkt : ((k : Int)).toNat = k := by omega
      have cb0 : decide (k < l.length) = true := decide_eq_true h1
      clear hca hcb
      generalize l[k] = c at *
      have X1 : w.cell? ⟨(a.add (k * 6)).block, (a.add (k * 6)).off + 1, none⟩ = some (.int .i64 c.h) := x1
      have X2 : w.cell? ⟨(a.add (k * 6)).block, (a.add (k * 6)).off + 2, none⟩ = some (.int .i64 c.l) := x2
      have X3 : w.cell? ⟨(a.add (k * 6)).block, (a.add (k * 6)).off + 3, none⟩ = some (.int .i64 c.a) := x3
      have X4 : w.cell? ⟨(a.add (k * 6)).block, (a.add (k * 6)).off + 4, none⟩ = some (.int .i64 c.s) := x4
      have X5 : w.cell? ⟨(a.add (k * 6)).block, (a.add (k * 6)).off + 5, none⟩ = some (.int .i64 c.n) := x5
      have Y1 : w.cell? ⟨(b.add (k * 6)).block, (b.add (k * 6)).off + 1, none⟩ = some (.int .i64 c.h) := y1
      have Y2 : w.cell? ⟨(b.add (k * 6)).block, (b.add (k * 6)).off + 2, none⟩ = some (.int .i64 c.l) := y2
      have Y3 : w.cell? ⟨(b.add (k * 6)).block, (b.add (k * 6)).off + 3, none⟩ = some (.int .i64 c.a) := y3
      have Y4 : w.cell? ⟨(b.add (k * 6)).block, (b.add (k * 6)).off + 4, none⟩ = some (.int .i64 c.s) := y4
      have Y5 : w.cell? ⟨(b.add (k * 6)).block, (b.add (k * 6)).off + 5, none⟩ = some (.int .i64 c.n) := y5
      clear x1 x2 x3 x4 x5 y1 y2 y3 y4 y5
      go_upto_region 6 with fail
      go_quiet (fail)
      go_wp2
      go_roundw
      case rel => exact ⟨k + 1, by omega, by go_num, n + nq, rfl⟩
      case measure => simp [intOf]; omega
    · obtain rfl : k = l.length := by omega
      go_wp2
      go_ret
      exact ⟨rfl, drewN_below _ _⟩
/-! ## how far it went -/
/-- Body -/
def body (c : Cd) : Int := if Am.rg (c.a - c.f) then c.a - c.f else if c.a < c.f then -9223372036854775808 else 9223372036854775807
theorem body_any (c : Cd) (hc : c.ok) (w : World) :
    Calls Try.prog 13 #[.agg #[.int .i64 c.f, .int .i64 c.h, .int .i64 c.l, .int .i64 c.a, .int .i64 c.s, .int .i64 c.n]] w fun e w' => e = .returned (.int .i64 (body c)) ∧ Below w.heap.size w w' := by
  have cS := Lib.hid (fun W => sub_any c.a c.f hc.a hc.f W)
  have B0 := Lib.hid (heap_alloc_last w (.cells (ccs c) 42 (0, 0)))
  clear hc
  by_cases hr : Am.rg (c.a - c.f)
  · have e1 : Hid (body c = c.a - c.f) := by rw [Hid]; unfold body; rw [if_pos hr]
    rw [Am.okv_in hr, Am.erv_in hr] at cS
    clear hr
    generalize c.a - c.f = d at *
    go_enter Try.func13, Try.ntmps13
    go_wp2_with (go_at_call 21; (with_reducible refine (cS.out _).mono ?_); rintro e w2 ⟨rfl, hb2⟩)
    go_ret
    exact ⟨by rw [e1.out]; rfl, ((Below.refl _ w).alloc (Nat.le_refl _) _).trans (hb2.mono (by simp))⟩
  · rw [Am.okv_out hr, Am.erv_out hr] at cS
    by_cases hlt : c.a < c.f
    · have e1 : Hid (body c = -9223372036854775808) := by rw [Hid]; unfold body; rw [if_neg hr, if_pos hlt]
      clear hr
      go_enter Try.func13, Try.ntmps13
      go_wp2_with (go_at_call 21; (with_reducible refine (cS.out _).mono ?_); rintro e w2 ⟨rfl, hb2⟩; obtain ⟨⟨p0, p1, p2, p3, p4, p5⟩, -⟩ := row6 (hp_on B0.out hb2))
      go_ret
      exact ⟨by rw [e1.out]; rfl, ((Below.refl _ w).alloc (Nat.le_refl _) _).trans (hb2.mono (by simp))⟩
    · have e1 : Hid (body c = 9223372036854775807) := by rw [Hid]; unfold body; rw [if_neg hr, if_neg hlt]
      clear hr
      go_enter Try.func13, Try.ntmps13
      go_wp2_with (go_at_call 21; (with_reducible refine (cS.out _).mono ?_); rintro e w2 ⟨rfl, hb2⟩; obtain ⟨⟨p0, p1, p2, p3, p4, p5⟩, -⟩ := row6 (hp_on B0.out hb2))
      go_ret
      exact ⟨by rw [e1.out]; rfl, ((Below.refl _ w).alloc (Nat.le_refl _) _).trans (hb2.mono (by simp))⟩
/-! ## the chapter's example -/
def exK : List Tk := [⟨5, 1⟩, ⟨7, 1⟩, ⟨6, 2⟩]
theorem ex_row (w : World) : KRow (w.alloc (.cells #[.int .i64 5, .int .i64 1, .int .i64 7, .int .i64 1, .int .i64 6, .int .i64 2] 32)) (some ⟨w.heap.size, 0, none⟩) exK := fun _ => by
  refine ⟨_, rfl, by simp, fun i hi => ?_⟩
  have h := heap_alloc_last w (.cells #[.int .i64 5, .int .i64 1, .int .i64 7, .int .i64 1, .int .i64 6, .int .i64 2] 32 (0, 0))
  match i, hi with
  | 0, _ => exact ⟨(cells_in h 0 rfl).1, (cells_in h 1 rfl).1⟩
  | 1, _ => exact ⟨(cells_in h 2 rfl).1, (cells_in h 3 rfl).1⟩
  | 2, _ => exact ⟨(cells_in h 4 rfl).1, (cells_in h 5 rfl).1⟩
theorem ex_of : ofM tkd exK 3 = ([⟨5, 7, 5, 6, 4, 3⟩], 0) := by (simp [ofM, spR, spans, parts, seg, rows, joins, join, tkd, one, exK, Am.rg, wrap64, z0]; decide)
theorem awake35_any (w : World) : Calls Try.prog 5 #[] w fun e w' => e = .returned (.bool true) ∧ Below w.heap.size w w' := by
  have cO := Lib.hid (fun W R => of_any (some ⟨w.heap.size, 0, none⟩) 3 exK (by decide) (by decide) (by decide) (fun x hx => by
    have : x = ⟨5, 1⟩ ∨ x = ⟨7, 1⟩ ∨ x = ⟨6, 2⟩ := by simpa [exK] using hx
    rcases this with rfl | rfl | rfl <;> exact one_ok (by unfold Am.rg; decide) (by unfold Am.rg; decide)) 3 (by decide) W R)
  have HR := Lib.hid (ex_row w)
  have es := fun W => cdl_same ⟨5, 7, 5, 6, 4, 3⟩ W
  rw [ex_of] at cO
  simp only [show exK.length = 3 from rfl] at cO
  simp only at es
  go_enter Try.func5, Try.ntmps5
  go_wp2_with (go_at_call 7; (with_reducible refine (cO.out _ HR.out).mono ?_); rintro e w2 ⟨AO, co, rfl, h1, h2, h3, h4⟩
               obtain ⟨a, rfl, hab, hc⟩ := h1 (by decide)
               obtain ⟨x0, x1, x2, x3, x4, x5⟩ := hc 0 (by decide)
               have H4 := Lib.hid h4
               have X0 : w2.cell? a = some (.int .i64 5) := x0
               have X1 : w2.cell? ⟨a.block, a.off + 1, none⟩ = some (.int .i64 7) := x1
               have X2 : w2.cell? ⟨a.block, a.off + 2, none⟩ = some (.int .i64 5) := x2
               have X3 : w2.cell? ⟨a.block, a.off + 3, none⟩ = some (.int .i64 6) := x3
               have X4 : w2.cell? ⟨a.block, a.off + 4, none⟩ = some (.int .i64 4) := x4
               have X5 : w2.cell? ⟨a.block, a.off + 5, none⟩ = some (.int .i64 3) := x5
               clear h1 h2 h3 h4 hc x0 x1 x2 x3 x4 x5)
  go_ret
  exact ⟨rfl, ((Below.refl _ w).alloc (Nat.le_refl _) _).trans (H4.out.mono (by simp))⟩
end Go.Proofs.Ytfgahmkfhlbogaa.Ca
