/-
  No cell of these rows narrows 'for every input' (looked for: loops, veiled, ifaces, maps, wideKeys, modest, calm, conditions, laid).
  DERIVED. THE GIVEN ROWS OF THIS SEAT. 3 by the template 'for every input the law returns true; each argument reads behind the call as it read before'; 0 by the template 'total and deterministic' (their statements: YtmecpbgjienidaaTotals.lean).
  GIVEN WITH THE SEED: the statements are not yours to turn. If you find one false, say at which input.
  Laid BY PROGRAM, IN A SANDBOX (cutbox-rows.mjs): the forced cells as the released guide's own fill.sh prints them over the translation 3f713fc265cd35c5… (all of the seat's roots in one cut). By AI agents, Wed Nov 11 2026. No macro, syntax, notation, axiom, sorry.
-/
import Derived.Test.YtmecpbgjienidaaChecked
import GoSem.Claim
import GoSem.ClaimJoined
import GoSem.ClaimMapViews
import Derived.JoinedTies
import Derived.KernelRfl
namespace Go.Proofs.Ytmecpbgjienidaa
/- THE CELL 'sum', in the pinned program and in every row, IS THE sha256 OF THE DUMP (.gsa) THAT YtmecpbgjienidaaProg.lean LOADS. Nothing in Lean hashes anything: it is a label: what it is worth is what the hold of that sum in a sandbox is worth. -/
noncomputable def Try.pinned : Pinned := { name := "ytmecpbgjienidaa", sum := "3f713fc265cd35c50e860de96533215c17fc83560308a2475c0b8b820027e05c", checked := Try.checked }
namespace Rows
def none {H : Type} : Left H := { results := [], args := [] }

/-- 'bourselaw33.SeasonWaves': WHATEVER THE INPUT: true; the input reads as it did. -/
def seasonWavesSpec : ChangeSpec := { name := "seasonWaves", fn := fun _ => fun
  | [d1, d2] => { results := [.lit (.bool true)], args := [d1, d2] }
  | _ => none }
def seasonWavesRow : OpenClaim := { program := "ytmecpbgjienidaa", sum := "3f713fc265cd35c50e860de96533215c17fc83560308a2475c0b8b820027e05c", func := "bourse/bourselaw33.SeasonWaves", spec := "seasonWaves", apart := false }
def SeasonWavesSaid : Prop := seasonWavesRow.holds Try.pinned (OpenSpec.ofChange seasonWavesSpec)

/-- ITS FALSE NEIGHBOUR: 'it returns false'. Refute it at one input. -/
def seasonWavesWrong : ChangeSpec := { name := "seasonWaves", fn := fun _ => fun
  | [d1, d2] => { results := [.lit (.bool false)], args := [d1, d2] }
  | _ => none }
def SeasonWavesWrongFalsely : Prop := seasonWavesRow.holds Try.pinned (OpenSpec.ofChange seasonWavesWrong)

/-- 'bourselaw33.SeasonBack': WHATEVER THE INPUT: true; the input reads as it did. -/
def seasonBackSpec : ChangeSpec := { name := "seasonBack", fn := fun _ => fun
  | [d1, d2, d3] => { results := [.lit (.bool true)], args := [d1, d2, d3] }
  | _ => none }
def seasonBackRow : OpenClaim := { program := "ytmecpbgjienidaa", sum := "3f713fc265cd35c50e860de96533215c17fc83560308a2475c0b8b820027e05c", func := "bourse/bourselaw33.SeasonBack", spec := "seasonBack", inPlace := ["math.archTrunc", "math.Float64bits", "math.Float64frombits"], apart := false }
def SeasonBackSaid : Prop := seasonBackRow.holds Try.pinned (OpenSpec.ofChange seasonBackSpec)

/-- ITS FALSE NEIGHBOUR: 'it returns false'. Refute it at one input. -/
def seasonBackWrong : ChangeSpec := { name := "seasonBack", fn := fun _ => fun
  | [d1, d2, d3] => { results := [.lit (.bool false)], args := [d1, d2, d3] }
  | _ => none }
def SeasonBackWrongFalsely : Prop := seasonBackRow.holds Try.pinned (OpenSpec.ofChange seasonBackWrong)

/-- 'bourselaw33.SeasonTurns': WHATEVER THE INPUT: true; the input reads as it did. -/
def seasonTurnsSpec : ChangeSpec := { name := "seasonTurns", fn := fun _ => fun
  | [d1, d2, d3, d4] => { results := [.lit (.bool true)], args := [d1, d2, d3, d4] }
  | _ => none }
def seasonTurnsRow : OpenClaim := { program := "ytmecpbgjienidaa", sum := "3f713fc265cd35c50e860de96533215c17fc83560308a2475c0b8b820027e05c", func := "bourse/bourselaw33.SeasonTurns", spec := "seasonTurns", inPlace := ["math.archTrunc", "math.Float64bits", "math.Float64frombits"], apart := false }
def SeasonTurnsSaid : Prop := seasonTurnsRow.holds Try.pinned (OpenSpec.ofChange seasonTurnsSpec)

/-- ITS FALSE NEIGHBOUR: 'it returns false'. Refute it at one input. -/
def seasonTurnsWrong : ChangeSpec := { name := "seasonTurns", fn := fun _ => fun
  | [d1, d2, d3, d4] => { results := [.lit (.bool false)], args := [d1, d2, d3, d4] }
  | _ => none }
def SeasonTurnsWrongFalsely : Prop := seasonTurnsRow.holds Try.pinned (OpenSpec.ofChange seasonTurnsWrong)

/- THE SECOND FORM. 'bulk': how many values and letters a reading holds, each counted each time it is reached (what is shared counts as often as it is met; a slice's spare places count too). A statement '..UptoSaid' is the law's where the arguments, and the package variables that the reading takes, are together of bulk at most 1048576: NARROWER than '..Said'. Prove '..Said' where nothing that the law and all that it calls make is longer than what came in: it says more and counts as full. Else prove '..UptoSaid'. A law counts once. -/
mutual
def uptoBulk {H : Type} : DataW H → Nat
  | .lit (.string bytes) => bytes.length + 1
  | .lit _ => 1
  | .nil => 1
  | .ptr d => uptoBulk d + 1
  | .slice elems spare => uptoBulkAll elems + uptoBulkAll spare + 1
  | .agg parts => uptoBulkAll parts + 1
  | .iface _ d => uptoBulk d + 1
  | .map entries => uptoBulkEntries entries + 1
  | .held _ => 1
def uptoBulkAll {H : Type} : List (DataW H) → Nat
  | [] => 0
  | d :: r => uptoBulk d + uptoBulkAll r
def uptoBulkEntries {H : Type} : List (Lit × DataW H) → Nat
  | [] => 0
  | x :: r => uptoBulkEntry x + uptoBulkEntries r
def uptoBulkEntry {H : Type} : Lit × DataW H → Nat
  | (.string bytes, d) => bytes.length + uptoBulk d + 1
  | (_, d) => uptoBulk d + 1
 end
def uptoSmall : (H : Type) → List (DataW H) → Bool := fun _ ds => decide (uptoBulkAll ds ≤ 1048576)
def OpenSpec.upto (s : _root_.Go.ChangeSpec) : _root_.Go.OpenSpec := { _root_.Go.OpenSpec.ofChange s with cond := some uptoSmall }

/-- 'bourselaw33.SeasonWaves', WHERE WHAT IT READS IS OF BULK AT MOST 1048576: true; the input reads as it did. -/
def seasonWavesUptoRow : OpenClaim := { program := "ytmecpbgjienidaa", sum := "3f713fc265cd35c50e860de96533215c17fc83560308a2475c0b8b820027e05c", func := "bourse/bourselaw33.SeasonWaves", spec := "seasonWaves", apart := false, narrowed := true }
def SeasonWavesUptoSaid : Prop := seasonWavesUptoRow.holds Try.pinned (OpenSpec.upto seasonWavesSpec)

/-- 'bourselaw33.SeasonBack', WHERE WHAT IT READS IS OF BULK AT MOST 1048576: true; the input reads as it did. -/
def seasonBackUptoRow : OpenClaim := { program := "ytmecpbgjienidaa", sum := "3f713fc265cd35c50e860de96533215c17fc83560308a2475c0b8b820027e05c", func := "bourse/bourselaw33.SeasonBack", spec := "seasonBack", inPlace := ["math.archTrunc", "math.Float64bits", "math.Float64frombits"], apart := false, narrowed := true }
def SeasonBackUptoSaid : Prop := seasonBackUptoRow.holds Try.pinned (OpenSpec.upto seasonBackSpec)

/-- 'bourselaw33.SeasonTurns', WHERE WHAT IT READS IS OF BULK AT MOST 1048576: true; the input reads as it did. -/
def seasonTurnsUptoRow : OpenClaim := { program := "ytmecpbgjienidaa", sum := "3f713fc265cd35c50e860de96533215c17fc83560308a2475c0b8b820027e05c", func := "bourse/bourselaw33.SeasonTurns", spec := "seasonTurns", inPlace := ["math.archTrunc", "math.Float64bits", "math.Float64frombits"], apart := false, narrowed := true }
def SeasonTurnsUptoSaid : Prop := seasonTurnsUptoRow.holds Try.pinned (OpenSpec.upto seasonTurnsSpec)

end Rows
end Go.Proofs.Ytmecpbgjienidaa
