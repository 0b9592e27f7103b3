/-
  A row in spans (slices.Chunk), walked. Conditions: as each theorem states.
-/
import Derived.Test.YtfgahmkfhlbogaaCaS
import Derived.Test.YtfgahmkfhlbogaaRfV
import Derived.Test.YtfgahmkfhlbogaaRfQ
namespace Go.Proofs.Ytfgahmkfhlbogaa.Ca
open Go.RowKit Go.Shelf
open Go.Proofs.Ytfgahmkfhlbogaa Go.Proofs.Ytfgahmkfhlbogaa.Hx Go.Proofs.Ytfgahmkfhlbogaa.Rf
attribute [local go_sem] Oper.semAt_some

/-- a span, handed over -/
def encK (A : Option Addr) (k : Nat) (p : Nat × Nat) : Array Value := #[.slice (A.map (fun a => a.add (p.1 * k))) p.2 p.2]
/-- both boxes stay -/
def KpB (bs bn : Nat) (X Y : World) : Prop := ∀ k c t fr, (k = bs ∨ k = bn) → X.heap[k]? = some (.cells c t fr) → Y.heap[k]? = some (.cells c t fr)
theorem KpB.t {bs bn : Nat} {X Y Z : World} (h : KpB bs bn X Y) (k : KpB bs bn Y Z) : KpB bs bn X Z := fun j c t fr h1 h2 => k j c t fr h1 (h j c t fr h1 h2)
theorem kpB_b {bs bn : Nat} (W : World) (l : Nat) (o o' : Obj) (h : W.heap[l]? = some o) (hc : o.isCells = false) : KpB bs bn W (W.putObj l o') := fun k c t fr _ hk => by
  rw [World.putObj_heap_other (fun e => by subst e; rw [h] at hk; injection hk with hk; subst hk; cases hc)]
  exact hk
theorem KpB.of_below {bs bn : Nat} {X Y : World} (h : Below X.heap.size X Y) : KpB bs bn X Y := fun _ _ _ _ _ hk => hp_on hk h
theorem chunkT_any (A : Option Addr) (len c : Nat) (m : Int) (hm : 1 ≤ m) (w : World) :
    Calls Try.prog 22 #[.slice A len c, .int .i64 m] w fun e w' => e = .returned (.func (.func 28) #[] #[.pointer (some ⟨w.heap.size, 0, none⟩), .pointer (some ⟨w.heap.size + 1, 0, none⟩)]) ∧
      w' = (w.alloc (.cells #[.slice A len c] 33)).alloc (.cells #[.int .i64 m] 3) := by
  go_enter Try.func22, Try.ntmps22
  go_wp2
  go_ret
  exact ⟨rfl, rfl⟩
def ChuT (m len : Nat) (J : List (Nat × Nat) → World → Prop) (bs bn : Nat) (A : Option Addr) (c : Nat) (i : Value) (wr : World) : Prop :=
  ∃ (k f : Nat) (pre : List (Nat × Nat)), i = .int .i64 k ∧ k ≤ 9223372036854775807 ∧ (k = 0 ∨ m ≤ k) ∧ len ≤ f + k ∧ parts m len len 0 = pre ++ parts m len f k ∧ J pre wr ∧
    wr.heap[bs]? = some (.cells #[.slice A len c] 33 (0, 0)) ∧ wr.heap[bn]? = some (.cells #[.int .i64 m] 3 (0, 0))
set_option maxRecDepth 100000 in
set_option maxHeartbeats 2000000 in
theorem chunkT_seq (n : Nat) {w : World} {bs bn : Nat} {A : Option Addr} {len c m : Nat} (hl : len ≤ 1000) (hc : len ≤ c) (hcm : c ≤ 9223372036854775807) (hA : 0 < len → A.isSome = true) (hm : 1 ≤ m) (hm2 : m ≤ 9223372036854775807)
    (hbs : w.heap[bs]? = some (.cells #[.slice A len c] 33 (0, 0))) (hbn : w.heap[bn]? = some (.cells #[.int .i64 m] 3 (0, 0))) :
    SeqT Fence.wide n Try.prog 28 #[.pointer (some ⟨bs, 0, none⟩), .pointer (some ⟨bn, 0, none⟩)] (encK A 2) (fun _ _ => False) (KpB bs bn) (parts m len len 0) w := fun lp J Jx W hW hJ hJx _ hY h0 => by
  have hsW := hW.size
  have hbsW := (hW.block bs (hp_lt hbs)).trans hbs
  have hbnW := (hW.block bn (hp_lt hbn)).trans hbn
  refine callsIn_of_wp Try.func28 rfl trivial ?_ rfl
  simp only [Try.ntmps28, List.size_toArray, List.length_cons, List.length_nil, Nat.reduceAdd, Nat.reduceSub, Array.replicate_succ, Array.replicate_zero, List.push_toArray, List.append_toArray, List.nil_append, List.cons_append]
  gi_wp2
  have HST : Hid (ChuT m len J bs bn A c (.int .i64 0) W) := ⟨0, len, [], rfl, by omega, .inl rfl, by omega, rfl, h0, hbsW, hbnW⟩
  clear h0 hbsW hbnW
  gi_loopw [4] (fun i wr => ChuT m len J bs bn A c i wr) (fun i _ => len - (intOf i).toNat)
  case atStart => exact HST.out
  case round =>
    clear HST
    obtain ⟨k, f, pre, rfl, hk1, hk2, hf, hp, hJs, hb1, hb2⟩ := hrel
    have x1 := (cell1 hb1).1
    have x2 := (cell1 hb2).1
    have HJS := Lib.hid hJs
    have HB := Lib.hid (And.intro hb1 hb2)
    have HP := Lib.hid hp
    clear hJs hb1 hb2 hp
    by_cases h1 : k < len
    · obtain ⟨a, rfl⟩ : ∃ a, A = some a := by
        cases A with
        | none => have := hA (by omega); cases this
        | some a => exact ⟨a, rfl⟩
      obtain ⟨f', rfl⟩ : ∃ f', f = f' + 1 := ⟨f - 1, by omega⟩
      have hpe : parts m len (f' + 1) k = (k, min m (len - k)) :: parts m len f' (k + m) := by
        show (if k < len then _ else _) = _
        rw [if_pos h1]
      obtain ⟨e, he⟩ : ∃ e, e = min m (len - k) := ⟨_, rfl⟩
      have he0 : 0 < e := by omega
      have hek : k + e ≤ len := by omega
      rw [← he] at hpe
      have HPE : Hid (parts m len len 0 = pre ++ [(k, e)] ++ parts m len f' (k + m)) := by rw [Hid, HP.out, hpe]; simp
      have hlen1 : (k : Int) < (len : Int) := by omega
      obtain ⟨X, hs1⟩ : ∃ X, ∀ W, (Instr.slice 33 (.slice (some a) len c) (some (.int .i64 (k : Int))) none none).run Try.prog W = .ok (.slice X (len - k) (c - k)) W :=
        ⟨if c = k then some a else (some a).map (fun x => x.add (k * 2)), fun W => by
          have hu : Try.prog.underlying 33 = some (.slice (Try.prog.elem 33)) := by kernel_rfl
          have hsz : (sizeOf (Try.prog.elem 33)).run Try.prog W = .ok 2 W := by kernel_rfl
          rw [run_slice_l (P := Try.prog) (ht := hu) (w := W) (h0 := by omega) (h1 := by omega), hsz]
          simp [Result.andThen, sliced]⟩
      have hs2 : ∀ W, (Instr.slice 33 (.slice (some a) len c) (some (.int .i64 (k : Int))) (some (.int .i64 ((k : Int) + (e : Int)))) (some (.int .i64 ((k : Int) + (e : Int))))).run Try.prog W = .ok (.slice (some (a.add (k * 2))) e e) W := fun W => by
        have hu : Try.prog.underlying 33 = some (.slice (Try.prog.elem 33)) := by kernel_rfl
        have hsz : (sizeOf (Try.prog.elem 33)).run Try.prog W = .ok 2 W := by kernel_rfl
        rw [run_slice_lhm (P := Try.prog) (ht := hu) (w := W) (h0 := by omega) (h1 := by omega) (h2 := by omega) (h3 := by omega), hsz]
        have e1 : ((k : Int) + (e : Int)).toNat = k + e := by omega
        simp only [Result.andThen, sliced, e1, Int.toNat_natCast]
        rw [if_neg (by omega)]
        simp
      have hmn : ∀ ts t W, (Builtin.min_ ts t #[.int .i64 (m : Int), .int .i64 (((len - k : Nat)) : Int)]).run Try.prog W = .ok (.int .i64 (e : Int)) W := fun ts t W => by
        rw [min_run]; congr 2; omega
      have hm3 : (m : Int) ≤ 9223372036854775807 := by omega
      have HM := Lib.hid (And.intro hm (And.intro hm3 (And.intro hk2 hf)))
      have HE := Lib.hid he
      clear hpe he hk2 hf hm3
      gi_wp2
      refine wpIn_wide.2 ?_
      go_quiet (fail)
      have J1 := hJ pre wr (wr.drewN nq) none HJS.out ⟨rfl, rfl, rfl, Nat.le_refl _, fun _ _ _ => rfl⟩ (fun r e => by cases e)
      obtain ⟨fn, tmps, assign, body, hy, hR⟩ := hY pre (k, e) (wr.drewN nq) J1 ⟨_, HPE.out.symm⟩
      dsimp only [encK, Option.map_some] at hy
      clear J1 hs1 hmn
      gi_wp2
      refine ⟨(fun h => by cases h), hR.mono ?_⟩
      rintro e3 W3 (⟨rfl, hJ3, hk3, hkf3⟩ | ⟨rfl, hJx3, _⟩)
      · have hb1' := hk3 bs _ _ _ (.inl rfl) HB.out.1
        have hb2' := hk3 bn _ _ _ (.inr rfl) HB.out.2
        have y1 := (cell1 hb1').1
        have y2 := (cell1 hb2').1
        have HB3 := Lib.hid (And.intro hb1' hb2')
        have HJ3 := Lib.hid hJ3
        obtain ⟨g1, g2, g3, g4⟩ := HM.out
        have hkm : k + m ≤ 9223372036854775807 := by omega
        have hkm2 : (k : Int) + (m : Int) ≤ 9223372036854775807 := by omega
        have HG := Lib.hid (And.intro g1 g4)
        clear hb1' hb2' hk3 hkf3 hJ3 g2 g3 g4 x1 x2
        gi_wp2
        go_roundw
        case rel => exact ⟨k + m, f', pre ++ [(k, e)], by rw [Int.natCast_add], hkm, .inr (Nat.le_add_left _ _), by have := HG.out; omega, HPE.out, HJ3.out, HB3.out.1, HB3.out.2⟩
        case measure => simp [intOf]; omega
      · gi_wp2
        refine bodyPost_ret (results_none rfl _ _ _) rfl ?_
        exact ⟨⟨_, rfl⟩, .inr ⟨pre ++ [(k, e)], ⟨_, HPE.out.symm⟩, hJx3⟩⟩
    · have hp0 : parts m len f k = [] := by
        cases f with
        | zero => rfl
        | succ f => show (if k < len then _ else _) = _; rw [if_neg h1]
      have hge : (len : Int) ≤ (k : Int) := by omega
      gi_wp2
      go_end0
      refine ⟨⟨_, rfl⟩, .inl ?_⟩
      rw [HP.out, hp0, List.append_nil]; exact HJS.out
end Go.Proofs.Ytfgahmkfhlbogaa.Ca
