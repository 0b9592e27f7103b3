/-
  The Go text of whether two rows of parts are the same, walked. Conditions: as each theorem states.
-/
import Derived.Test.YtlpobkgmpegfjaaDoorKyF
import Derived.Laws.StructEq
namespace Go.Proofs.YtlpobkgmpegfjaaDoor
open Go.RowKit
open Vi

theorem partHeld : Tryd.prog.stoodInHeld 41 = false := by kernel_rfl
theorem partGuard : Tryd.prog.eqGuardType Tryd.prog.depth 41 = false := by kernel_rfl
def pneq (p q : KPart) : Bool := !(((p.sort : Int) == q.sort) && ((p.n == q.n) && (((p.u : Int) == q.u) && (p.s.toList == q.s.toList))))
theorem neq_part (p q : KPart) (w : World) : (binOp .neq 41 (.agg #[.int .u8 p.sort, .int .i64 p.n, .int .u64 p.u, .string p.s]) (.agg #[.int .u8 q.sort, .int .i64 q.n, .int .u64 q.u, .string q.s])).run Tryd.prog w =
    .ok (.bool (pneq p q)) w := by
  rw [run_neq_struct, run_equalIn_struct w 9999 _ _ _ (by kernel_rfl) partHeld]
  have hf : (Tryd.prog.fieldsOf 41).toList.map (fun f => (f.name, f.type, f.offset)) = [("Sort", 5, 0), ("N", 2, 1), ("U", 38, 2), ("S", 9, 3)] := by kernel_rfl
  generalize (Tryd.prog.fieldsOf 41).toList = fs at hf
  have hl : fs.length = 4 := by have := congrArg List.length hf; simpa using this
  match fs, hl, hf with
  | [f0, f1, f2, f3], _, hf =>
    simp only [List.map_cons, List.map_nil, List.cons.injEq, Prod.mk.injEq, and_true] at hf
    obtain ⟨⟨a0, b0, c0⟩, ⟨a1, b1, c1⟩, ⟨a2, b2, c2⟩, ⟨a3, b3, c3⟩⟩ := hf
    simp [Op.eqFields, a0, a1, a2, a3, b0, b1, b2, b3, c0, c1, c2, c3, part, go_sem, Tryd.underlying5, Tryd.underlying2, Tryd.underlying38, Tryd.underlying9]
    unfold pneq
    by_cases h0 : (p.sort : Int) = q.sort
    · by_cases h1 : p.n = q.n
      · by_cases h2 : (p.u : Int) = q.u
        · by_cases h3 : p.s.toList = q.s.toList <;> simp [h0, h1, h2, h3]
        · simp [h0, h1, h2]
      · simp [h0, h1]
    · simp [h0]
theorem pneq_false {p q : KPart} (h : p = q) : pneq p q = false := by subst h; simp [pneq]
theorem pneq_true {p q : KPart} (h : ¬ p = q) : pneq p q = true := by
  rcases Bool.eq_false_or_eq_true (pneq p q) with e | e
  · exact e
  · exfalso
    apply h
    obtain ⟨a, b, c, d⟩ := p
    obtain ⟨a', b', c', d'⟩ := q
    simp only [pneq, Bool.not_eq_false', Bool.and_eq_true, beq_iff_eq] at e
    obtain ⟨e1, e2, e3, e4⟩ := e
    have e4' : d = d' := by rw [← bs_of d, ← bs_of d', ← Lib.toList_data, ← Lib.toList_data, e4]
    have e1' : a = a' := by omega
    have e3' : c = c' := by omega
    rw [e1', e2, e3', e4']
def SmJ (w : World) (la lb : List KPart) (i : Value) (wr : World) : Prop :=
  ∃ j n : Nat, j ≤ la.length ∧ (∀ k (h : k < la.length) (h' : k < lb.length), k < j → la[k] = lb[k]) ∧ i = .int .i64 j ∧ wr = w.drewN n
set_option maxRecDepth 100000 in
set_option maxHeartbeats 2000000 in
theorem same_any {w : World} (A B : Option Addr) (c d : Nat) (la lb : List KPart) (hla : la.length ≤ 1000) (hlb : lb.length ≤ 1000) (ha : PRow w A la) (hb : PRow w B lb) :
    Calls Tryd.prog 19 #[.slice A la.length c, .slice B lb.length d] w fun e w' => ((e = .returned (.bool true) ∧ la = lb) ∨ (e = .returned (.bool false) ∧ ¬ la = lb)) ∧ Below w.heap.size w w' := by
  have HA := Lib.hid ha
  have HB := Lib.hid hb
  clear ha hb
  by_cases hne : la.length = lb.length
  · have hne1 : ((la.length : Int) != lb.length) = false := by simp; omega
    have HN := Lib.hid hne
    have hn1 : la.length ≤ lb.length := by omega
    clear hne
    go_enter Tryd.func19, Tryd.ntmps19
    go_wp2
    go_loopw [13] (SmJ w la lb) (fun i _ => la.length - (intOf i).toNat)
    case atStart => exact ⟨0, 0, by omega, by omega, rfl, rfl⟩
    case round =>
      obtain ⟨j, n, hj, hd, rfl, rfl⟩ := hrel
      have HD := Lib.hid hd
      clear hd
      by_cases hlt : j < la.length
      · have h2 : j < lb.length := by omega
        obtain ⟨a, rfl, hab, hca⟩ := HA.out (by omega)
        obtain ⟨b, rfl, hbb, hcb⟩ := HB.out (by omega)
        obtain ⟨x0, x1, x2, x3⟩ := hca j hlt
        obtain ⟨y0, y1, y2, y3⟩ := hcb j h2
        have hnp := neq_part la[j] lb[j]
        have hgd := partGuard
        clear hca hcb
        by_cases he : la[j] = lb[j]
        · have hp := pneq_false he
          have HE := Lib.hid he
          clear he
          go_wp2
          go_quiet (fail)
          go_wp2
          go_roundw
          case rel => exact ⟨j + 1, _, by omega, fun k h h' hk => by
            by_cases e : k = j
            · subst e; exact HE.out
            · exact HD.out k h h' (by omega), by go_num, by first | rfl | (rw [World.drewN_drewN])⟩
          case measure => simp [intOf]; omega
        · have hp := pneq_true he
          have HE := Lib.hid he
          clear he
          go_wp2
          go_quiet (fail)
          go_wp2
          go_ret
          exact ⟨.inr ⟨rfl, fun e => HE.out (by subst e; rfl)⟩, ⟨rfl, rfl, rfl, Nat.le_refl _, fun _ _ => rfl⟩⟩
      · go_wp2
        go_ret
        exact ⟨.inl ⟨rfl, List.ext_getElem HN.out fun k h h' => HD.out k h h' (by omega)⟩, ⟨rfl, rfl, rfl, Nat.le_refl _, fun _ _ => rfl⟩⟩
  · have hne1 : ((la.length : Int) != lb.length) = true := by simp; omega
    go_enter Tryd.func19, Tryd.ntmps19
    go_wp2
    go_ret
    exact ⟨.inr ⟨rfl, fun e => hne (by rw [e])⟩, Below.refl _ _⟩
end Go.Proofs.YtlpobkgmpegfjaaDoor
