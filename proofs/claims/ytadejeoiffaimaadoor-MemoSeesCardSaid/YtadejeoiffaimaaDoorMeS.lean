/-
  The document's Get and Add for rows of entries, walked; what they come to. Conditions: as each theorem states.
-/
import Derived.Test.YtadejeoiffaimaaDoorMeR
import Derived.Test.YtadejeoiffaimaaDoorMeG
namespace Go.Proofs.YtadejeoiffaimaaDoor.Me
open Go.RowKit
open Vi

theorem box_at {W : World} {g : Nat} {o : Obj} (h : W.heap[g]? = some o) (o' : Obj) : (W.alloc o').heap[g]? = some o := old_alloc h o'
end Go.Proofs.YtadejeoiffaimaaDoor.Me
