/-
  The Go text of which row of parts stands ahead, walked. Conditions: as each theorem states.
-/
import Derived.Test.YtelbhegkaihjhaaDoorKyNum
namespace Go.Proofs.YtelbhegkaihjhaaDoor
open Go.RowKit
open Vi

def cmpI (x y : Int) : Int := if x < y then -1 else if y < x then 1 else 0
theorem cmpI_lt {x y : Int} (h : x < y) : cmpI x y = -1 := if_pos h
theorem cmpI_gt {x y : Int} (h : y < x) : cmpI x y = 1 := by unfold cmpI; rw [if_neg (by omega), if_pos h]
theorem cmpI_eq {x y : Int} (h1 : ¬ x < y) (h2 : ¬ y < x) : cmpI x y = 0 := by unfold cmpI; rw [if_neg h1, if_neg h2]
def cmpS (x y : List UInt8) : Int := if Op.bytesLess x y = true then -1 else if x = y then 0 else 1
theorem bl_irrefl : ∀ l : List UInt8, Op.bytesLess l l = false
  | [] => rfl
  | x :: l => by rw [bl_eq]; exact bl_irrefl l
def pcmp (p q : KPart) : Int :=
  if p.sort = q.sort then (if p.sort = 105 then cmpI p.n q.n else if p.sort = 100 then cmpI q.n p.n else if p.sort = 117 then cmpI p.u q.u else if p.sort = 116 then cmpS p.s.data.toList q.s.data.toList else 0) else cmpI p.sort q.sort
end Go.Proofs.YtelbhegkaihjhaaDoor
