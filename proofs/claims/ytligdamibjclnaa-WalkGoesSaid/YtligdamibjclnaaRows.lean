/-
  No cell of these rows narrows 'for every input' (looked for: loops, veiled, ifaces, maps, wideKeys, modest, calm, conditions, laid).
  DERIVED. THE GIVEN ROWS OF THIS SEAT. 3 by the template 'for every input the law returns true; each argument reads behind the call as it read before'; 0 by the template 'total and deterministic' (their statements: YtligdamibjclnaaTotals.lean).
  GIVEN WITH THE SEED: the statements are not yours to turn. If you find one false, say at which input.
  Laid BY PROGRAM, IN A SANDBOX (cutbox-rows.mjs): the forced cells as the released guide's own fill.sh prints them over the translation a7c07597b1232cc4… (all of the seat's roots in one cut). By AI agents, Wed Nov 11 2026. No macro, syntax, notation, axiom, sorry.
-/
import Derived.Test.YtligdamibjclnaaChecked
import GoSem.Claim
import GoSem.ClaimJoined
import GoSem.ClaimMapViews
import Derived.JoinedTies
import Derived.KernelRfl
namespace Go.Proofs.Ytligdamibjclnaa
/- THE CELL 'sum', in the pinned program and in every row, IS THE sha256 OF THE DUMP (.gsa) THAT YtligdamibjclnaaProg.lean LOADS. Nothing in Lean hashes anything: it is a label: what it is worth is what the hold of that sum in a sandbox is worth. -/
noncomputable def Try.pinned : Pinned := { name := "ytligdamibjclnaa", sum := "a7c07597b1232cc42ad37e16a9738d4ce404ceaa0592288bcff70b0c775885ea", checked := Try.checked }
namespace Rows
def none {H : Type} : Left H := { results := [], args := [] }

/-- 'bourselaw34.WalkGoes': WHATEVER THE INPUT: true; the input reads as it did. -/
def walkGoesSpec : ChangeSpec := { name := "walkGoes", fn := fun _ => fun
  | [d1, d2] => { results := [.lit (.bool true)], args := [d1, d2] }
  | _ => none }
def walkGoesRow : OpenClaim := { program := "ytligdamibjclnaa", sum := "a7c07597b1232cc42ad37e16a9738d4ce404ceaa0592288bcff70b0c775885ea", func := "bourse/bourselaw34.WalkGoes", spec := "walkGoes", unfollowed := true, recurses := true, apart := false }
def WalkGoesSaid : Prop := walkGoesRow.holds Try.pinned (OpenSpec.ofChange walkGoesSpec)

/-- ITS FALSE NEIGHBOUR: 'it returns false'. Refute it at one input. -/
def walkGoesWrong : ChangeSpec := { name := "walkGoes", fn := fun _ => fun
  | [d1, d2] => { results := [.lit (.bool false)], args := [d1, d2] }
  | _ => none }
def WalkGoesWrongFalsely : Prop := walkGoesRow.holds Try.pinned (OpenSpec.ofChange walkGoesWrong)

/-- 'bourselaw34.WalkDraws': WHATEVER THE INPUT: true; the input reads as it did. -/
def walkDrawsSpec : ChangeSpec := { name := "walkDraws", fn := fun _ => fun
  | [d1, d2] => { results := [.lit (.bool true)], args := [d1, d2] }
  | _ => none }
def walkDrawsRow : OpenClaim := { program := "ytligdamibjclnaa", sum := "a7c07597b1232cc42ad37e16a9738d4ce404ceaa0592288bcff70b0c775885ea", func := "bourse/bourselaw34.WalkDraws", spec := "walkDraws", inPlace := ["internal/abi.NoEscape"], unfollowed := true, recurses := true, apart := false }
def WalkDrawsSaid : Prop := walkDrawsRow.holds Try.pinned (OpenSpec.ofChange walkDrawsSpec)

/-- ITS FALSE NEIGHBOUR: 'it returns false'. Refute it at one input. -/
def walkDrawsWrong : ChangeSpec := { name := "walkDraws", fn := fun _ => fun
  | [d1, d2] => { results := [.lit (.bool false)], args := [d1, d2] }
  | _ => none }
def WalkDrawsWrongFalsely : Prop := walkDrawsRow.holds Try.pinned (OpenSpec.ofChange walkDrawsWrong)

/-- 'bourselaw34.WalkMirrors': WHATEVER THE INPUT: true; the input reads as it did. -/
def walkMirrorsSpec : ChangeSpec := { name := "walkMirrors", fn := fun _ => fun
  | [d1, d2] => { results := [.lit (.bool true)], args := [d1, d2] }
  | _ => none }
def walkMirrorsRow : OpenClaim := { program := "ytligdamibjclnaa", sum := "a7c07597b1232cc42ad37e16a9738d4ce404ceaa0592288bcff70b0c775885ea", func := "bourse/bourselaw34.WalkMirrors", spec := "walkMirrors", unfollowed := true, recurses := true, apart := false }
def WalkMirrorsSaid : Prop := walkMirrorsRow.holds Try.pinned (OpenSpec.ofChange walkMirrorsSpec)

/-- ITS FALSE NEIGHBOUR: 'it returns false'. Refute it at one input. -/
def walkMirrorsWrong : ChangeSpec := { name := "walkMirrors", fn := fun _ => fun
  | [d1, d2] => { results := [.lit (.bool false)], args := [d1, d2] }
  | _ => none }
def WalkMirrorsWrongFalsely : Prop := walkMirrorsRow.holds Try.pinned (OpenSpec.ofChange walkMirrorsWrong)

/- THE SECOND FORM. 'bulk': how many values and letters a reading holds, each counted each time it is reached (what is shared counts as often as it is met; a slice's spare places count too). A statement '..UptoSaid' is the law's where the arguments, and the package variables that the reading takes, are together of bulk at most 1048576: NARROWER than '..Said'. Prove '..Said' where nothing that the law and all that it calls make is longer than what came in: it says more and counts as full. Else prove '..UptoSaid'. A law counts once. -/
mutual
def uptoBulk {H : Type} : DataW H → Nat
  | .lit (.string bytes) => bytes.length + 1
  | .lit _ => 1
  | .nil => 1
  | .ptr d => uptoBulk d + 1
  | .slice elems spare => uptoBulkAll elems + uptoBulkAll spare + 1
  | .agg parts => uptoBulkAll parts + 1
  | .iface _ d => uptoBulk d + 1
  | .map entries => uptoBulkEntries entries + 1
  | .held _ => 1
def uptoBulkAll {H : Type} : List (DataW H) → Nat
  | [] => 0
  | d :: r => uptoBulk d + uptoBulkAll r
def uptoBulkEntries {H : Type} : List (Lit × DataW H) → Nat
  | [] => 0
  | x :: r => uptoBulkEntry x + uptoBulkEntries r
def uptoBulkEntry {H : Type} : Lit × DataW H → Nat
  | (.string bytes, d) => bytes.length + uptoBulk d + 1
  | (_, d) => uptoBulk d + 1
 end
def uptoSmall : (H : Type) → List (DataW H) → Bool := fun _ ds => decide (uptoBulkAll ds ≤ 1048576)
def OpenSpec.upto (s : _root_.Go.ChangeSpec) : _root_.Go.OpenSpec := { _root_.Go.OpenSpec.ofChange s with cond := some uptoSmall }

/-- 'bourselaw34.WalkGoes', WHERE WHAT IT READS IS OF BULK AT MOST 1048576: true; the input reads as it did. -/
def walkGoesUptoRow : OpenClaim := { program := "ytligdamibjclnaa", sum := "a7c07597b1232cc42ad37e16a9738d4ce404ceaa0592288bcff70b0c775885ea", func := "bourse/bourselaw34.WalkGoes", spec := "walkGoes", unfollowed := true, recurses := true, apart := false, narrowed := true }
def WalkGoesUptoSaid : Prop := walkGoesUptoRow.holds Try.pinned (OpenSpec.upto walkGoesSpec)

/-- 'bourselaw34.WalkDraws', WHERE WHAT IT READS IS OF BULK AT MOST 1048576: true; the input reads as it did. -/
def walkDrawsUptoRow : OpenClaim := { program := "ytligdamibjclnaa", sum := "a7c07597b1232cc42ad37e16a9738d4ce404ceaa0592288bcff70b0c775885ea", func := "bourse/bourselaw34.WalkDraws", spec := "walkDraws", inPlace := ["internal/abi.NoEscape"], unfollowed := true, recurses := true, apart := false, narrowed := true }
def WalkDrawsUptoSaid : Prop := walkDrawsUptoRow.holds Try.pinned (OpenSpec.upto walkDrawsSpec)

/-- 'bourselaw34.WalkMirrors', WHERE WHAT IT READS IS OF BULK AT MOST 1048576: true; the input reads as it did. -/
def walkMirrorsUptoRow : OpenClaim := { program := "ytligdamibjclnaa", sum := "a7c07597b1232cc42ad37e16a9738d4ce404ceaa0592288bcff70b0c775885ea", func := "bourse/bourselaw34.WalkMirrors", spec := "walkMirrors", unfollowed := true, recurses := true, apart := false, narrowed := true }
def WalkMirrorsUptoSaid : Prop := walkMirrorsUptoRow.holds Try.pinned (OpenSpec.upto walkMirrorsSpec)

end Rows
end Go.Proofs.Ytligdamibjclnaa
