/-
  Orders: what one is, and whether it may be. Mathematics only. No condition.
-/
import Derived.Test.YtckkabiafikjfaaAmA
namespace Go.Proofs.Ytckkabiafikjfaa.Odx
open Go.RowKit
open Go.Proofs.Ytckkabiafikjfaa
open Am

structure Odr where
  id : Nat
  account : Nat
  side : Int
  price : Int
  size : Int
  left : Int
  rank : Nat
  expiry : Nat
  state : Int
structure Odr.ok (o : Odr) : Prop where
  id : o.id < 18446744073709551616
  account : o.account < 18446744073709551616
  side : rg o.side
  price : rg o.price
  size : rg o.size
  left : rg o.left
  rank : o.rank < 18446744073709551616
  expiry : o.expiry < 18446744073709551616
  state : rg o.state
def Odr.cells (o : Odr) : Array Value := #[.int .u64 o.id, .int .u64 o.account, .int .i64 o.side, .int .i64 o.price, .int .i64 o.size, .int .i64 o.left, .int .u64 o.rank, .int .u64 o.expiry, .int .i64 o.state]
/-- May such a state be, with so much left? -/
def stOk (s l : Int) : Bool := if s = 1 then decide (0 < l) else if s = 2 then decide (l = 0) else decide (s = 3 ∨ s = 4)
def chkO (o : Odr) : Int :=
  if o.account = 0 ∨ o.id = 0 then 2 else if ¬ (o.side = 1 ∨ o.side = 2) then 27 else if ¬ rightI o.price o.size = 0 then rightI o.price o.size
  else if o.left < 0 ∨ o.size < o.left then 29 else if stOk o.state o.left = true then 0 else 11
end Go.Proofs.Ytckkabiafikjfaa.Odx
