/-
  No cell of these rows narrows 'for every input' (looked for: loops, veiled, ifaces, maps, wideKeys, modest, calm, conditions, laid).
  DERIVED. THE GIVEN ROWS OF THIS SEAT. 2 by the template 'for every input the law returns true; each argument reads behind the call as it read before'; 0 by the template 'total and deterministic' (their statements: YtfgahmkfhlbogaaTotals.lean).
  GIVEN WITH THE SEED: the statements are not yours to turn. If you find one false, say at which input.
  Laid BY PROGRAM, IN A SANDBOX (cutbox-rows.mjs): the forced cells as the released guide's own fill.sh prints them over the translation c2236ce4fb8ba305… (all of the seat's roots in one cut). By AI agents, Wed Nov 11 2026. No macro, syntax, notation, axiom, sorry.
-/
import Derived.Test.YtfgahmkfhlbogaaChecked
import GoSem.Claim
import GoSem.ClaimJoined
import GoSem.ClaimMapViews
import Derived.JoinedTies
import Derived.KernelRfl
namespace Go.Proofs.Ytfgahmkfhlbogaa
/- THE CELL 'sum', in the pinned program and in every row, IS THE sha256 OF THE DUMP (.gsa) THAT YtfgahmkfhlbogaaProg.lean LOADS. Nothing in Lean hashes anything: it is a label: what it is worth is what the hold of that sum in a sandbox is worth. -/
noncomputable def Try.pinned : Pinned := { name := "ytfgahmkfhlbogaa", sum := "c2236ce4fb8ba305b0b11983d9a1954c65d89a70179bddc9e2f36d4738b5dc39", checked := Try.checked }
namespace Rows
def none {H : Type} : Left H := { results := [], args := [] }

/-- 'bourselaw35.CandleMakes': WHATEVER THE INPUT: true; the input reads as it did. -/
def candleMakesSpec : ChangeSpec := { name := "candleMakes", fn := fun _ => fun
  | [d1, d2] => { results := [.lit (.bool true)], args := [d1, d2] }
  | _ => none }
def candleMakesRow : OpenClaim := { program := "ytfgahmkfhlbogaa", sum := "c2236ce4fb8ba305b0b11983d9a1954c65d89a70179bddc9e2f36d4738b5dc39", func := "bourse/bourselaw35.CandleMakes", spec := "candleMakes", unfollowed := true, recurses := true, apart := false }
def CandleMakesSaid : Prop := candleMakesRow.holds Try.pinned (OpenSpec.ofChange candleMakesSpec)

/-- ITS FALSE NEIGHBOUR: 'it returns false'. Refute it at one input. -/
def candleMakesWrong : ChangeSpec := { name := "candleMakes", fn := fun _ => fun
  | [d1, d2] => { results := [.lit (.bool false)], args := [d1, d2] }
  | _ => none }
def CandleMakesWrongFalsely : Prop := candleMakesRow.holds Try.pinned (OpenSpec.ofChange candleMakesWrong)

/-- 'bourselaw35.CandleFolds': WHATEVER THE INPUT: true; the input reads as it did. -/
def candleFoldsSpec : ChangeSpec := { name := "candleFolds", fn := fun _ => fun
  | [d1, d2, d3] => { results := [.lit (.bool true)], args := [d1, d2, d3] }
  | _ => none }
def candleFoldsRow : OpenClaim := { program := "ytfgahmkfhlbogaa", sum := "c2236ce4fb8ba305b0b11983d9a1954c65d89a70179bddc9e2f36d4738b5dc39", func := "bourse/bourselaw35.CandleFolds", spec := "candleFolds", unfollowed := true, recurses := true, apart := false }
def CandleFoldsSaid : Prop := candleFoldsRow.holds Try.pinned (OpenSpec.ofChange candleFoldsSpec)

/-- ITS FALSE NEIGHBOUR: 'it returns false'. Refute it at one input. -/
def candleFoldsWrong : ChangeSpec := { name := "candleFolds", fn := fun _ => fun
  | [d1, d2, d3] => { results := [.lit (.bool false)], args := [d1, d2, d3] }
  | _ => none }
def CandleFoldsWrongFalsely : Prop := candleFoldsRow.holds Try.pinned (OpenSpec.ofChange candleFoldsWrong)

/- THE SECOND FORM. 'bulk': how many values and letters a reading holds, each counted each time it is reached (what is shared counts as often as it is met; a slice's spare places count too). A statement '..UptoSaid' is the law's where the arguments, and the package variables that the reading takes, are together of bulk at most 1048576: NARROWER than '..Said'. Prove '..Said' where nothing that the law and all that it calls make is longer than what came in: it says more and counts as full. Else prove '..UptoSaid'. A law counts once. -/
mutual
def uptoBulk {H : Type} : DataW H → Nat
  | .lit (.string bytes) => bytes.length + 1
  | .lit _ => 1
  | .nil => 1
  | .ptr d => uptoBulk d + 1
  | .slice elems spare => uptoBulkAll elems + uptoBulkAll spare + 1
  | .agg parts => uptoBulkAll parts + 1
  | .iface _ d => uptoBulk d + 1
  | .map entries => uptoBulkEntries entries + 1
  | .held _ => 1
def uptoBulkAll {H : Type} : List (DataW H) → Nat
  | [] => 0
  | d :: r => uptoBulk d + uptoBulkAll r
def uptoBulkEntries {H : Type} : List (Lit × DataW H) → Nat
  | [] => 0
  | x :: r => uptoBulkEntry x + uptoBulkEntries r
def uptoBulkEntry {H : Type} : Lit × DataW H → Nat
  | (.string bytes, d) => bytes.length + uptoBulk d + 1
  | (_, d) => uptoBulk d + 1
 end
def uptoSmall : (H : Type) → List (DataW H) → Bool := fun _ ds => decide (uptoBulkAll ds ≤ 1048576)
def OpenSpec.upto (s : _root_.Go.ChangeSpec) : _root_.Go.OpenSpec := { _root_.Go.OpenSpec.ofChange s with cond := some uptoSmall }

/-- 'bourselaw35.CandleMakes', WHERE WHAT IT READS IS OF BULK AT MOST 1048576: true; the input reads as it did. -/
def candleMakesUptoRow : OpenClaim := { program := "ytfgahmkfhlbogaa", sum := "c2236ce4fb8ba305b0b11983d9a1954c65d89a70179bddc9e2f36d4738b5dc39", func := "bourse/bourselaw35.CandleMakes", spec := "candleMakes", unfollowed := true, recurses := true, apart := false, narrowed := true }
def CandleMakesUptoSaid : Prop := candleMakesUptoRow.holds Try.pinned (OpenSpec.upto candleMakesSpec)

/-- 'bourselaw35.CandleFolds', WHERE WHAT IT READS IS OF BULK AT MOST 1048576: true; the input reads as it did. -/
def candleFoldsUptoRow : OpenClaim := { program := "ytfgahmkfhlbogaa", sum := "c2236ce4fb8ba305b0b11983d9a1954c65d89a70179bddc9e2f36d4738b5dc39", func := "bourse/bourselaw35.CandleFolds", spec := "candleFolds", unfollowed := true, recurses := true, apart := false, narrowed := true }
def CandleFoldsUptoSaid : Prop := candleFoldsUptoRow.holds Try.pinned (OpenSpec.upto candleFoldsSpec)

end Rows
end Go.Proofs.Ytfgahmkfhlbogaa
