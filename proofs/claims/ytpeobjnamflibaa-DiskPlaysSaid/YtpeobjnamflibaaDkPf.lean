/-
  An act of the disk's law in memory; Light. Conditions: as each theorem states.
-/
import Derived.Test.YtpeobjnamflibaaDkPe
namespace Go.Proofs.Ytpeobjnamflibaa.Dk
open Go.RowKit Go.Maps
/-- an act: what is done, names, data, a number, fates -/
structure DAct where
  k : Int
  a : ByteArray
  b : ByteArray
  s : ByteArray
  n : Int
  fa : Option Addr
  fl : Nat
  fc : Nat
def DAct.cells (x : DAct) : Array Value := #[.int .i64 x.k, .string x.a, .string x.b, .string x.s, .int .i64 x.n, .slice x.fa x.fl x.fc]
def DAct.light (x : DAct) : Bool := decide (max x.a.size x.b.size ≤ 100) && decide (x.s.size ≤ 3000) && decide (x.fl ≤ 300)
set_option maxRecDepth 100000 in
theorem light_any (x : DAct) (h1 : x.a.size ≤ 9223372036854775807) (h2 : x.b.size ≤ 9223372036854775807) (h3 : x.s.size ≤ 9223372036854775807) (h4 : x.fl ≤ 9223372036854775807) (w : World) :
    Calls Try.prog 7 #[.agg x.cells] w fun r w' => r = .returned (.bool x.light) ∧ Below w.heap.size w w' := by
  obtain ⟨k, a, b, s, n, fa, fl, fc⟩ := x
  change a.size ≤ _ at h1
  change b.size ≤ _ at h2
  change s.size ≤ _ at h3
  change fl ≤ _ at h4
  unfold DAct.light DAct.cells
  go_enter Try.func7, Try.ntmps7
  by_cases c1 : ((max a.size b.size : Nat) : Int) ≤ 100
  · have c1' : max a.size b.size ≤ 100 := by omega
    by_cases c2 : s.size ≤ 3000
    · go_wp2
      go_ret
      refine ⟨congrArg (fun b => Ending.returned (.bool b)) ?_, (Below.refl _ _).alloc (Nat.le_refl _) _⟩
      simp only [c1', c2, decide_true, Bool.true_and]
      by_cases c3 : fl ≤ 300
      · simp [c3]; omega
      · simp [c3]; omega
    · go_wp2
      go_ret
      refine ⟨congrArg (fun b => Ending.returned (.bool b)) ?_, (Below.refl _ _).alloc (Nat.le_refl _) _⟩
      simp [c2]
  · have c1' : ¬ max a.size b.size ≤ 100 := by omega
    go_wp2
    go_ret
    refine ⟨congrArg (fun b => Ending.returned (.bool b)) ?_, (Below.refl _ _).alloc (Nat.le_refl _) _⟩
    simp only [c1', decide_false, Bool.false_and]
end Go.Proofs.Ytpeobjnamflibaa.Dk
