/-
  No cell of these rows narrows 'for every input' (looked for: loops, veiled, ifaces, maps, wideKeys, modest, calm, conditions, laid).
  DERIVED. THE GIVEN ROWS OF THIS SEAT. 4 by the template 'for every input the law returns true; each argument reads behind the call as it read before'; 0 by the template 'total and deterministic' (their statements: YtidbefagbjlomaaTotals.lean).
  GIVEN WITH THE SEED: the statements are not yours to turn. If you find one false, say at which input.
  Laid BY PROGRAM, IN A SANDBOX (cutbox-rows.mjs): the forced cells as the released guide's own fill.sh prints them over the translation a315682662aca305… (all of the seat's roots in one cut). By AI agents, Wed Nov 11 2026. No macro, syntax, notation, axiom, sorry.
-/
import Derived.Test.YtidbefagbjlomaaChecked
import GoSem.Claim
import GoSem.ClaimJoined
import GoSem.ClaimMapViews
import Derived.JoinedTies
import Derived.KernelRfl
namespace Go.Proofs.Ytidbefagbjlomaa
/- THE CELL 'sum', in the pinned program and in every row, IS THE sha256 OF THE DUMP (.gsa) THAT YtidbefagbjlomaaProg.lean LOADS. Nothing in Lean hashes anything: it is a label: what it is worth is what the hold of that sum in a sandbox is worth. -/
noncomputable def Try.pinned : Pinned := { name := "ytidbefagbjlomaa", sum := "a315682662aca3050ce72cc9cb45985e247c32d92ffdf093ed1d8bb53396f5bc", checked := Try.checked }
namespace Rows
def none {H : Type} : Left H := { results := [], args := [] }

/-- 'bourselaw19.AmountReckons': WHATEVER THE INPUT: true; the input reads as it did. -/
def amountReckonsSpec : ChangeSpec := { name := "amountReckons", fn := fun _ => fun
  | [d1, d2] => { results := [.lit (.bool true)], args := [d1, d2] }
  | _ => none }
def amountReckonsRow : OpenClaim := { program := "ytidbefagbjlomaa", sum := "a315682662aca3050ce72cc9cb45985e247c32d92ffdf093ed1d8bb53396f5bc", func := "bourse/bourselaw19.AmountReckons", spec := "amountReckons", apart := false }
def AmountReckonsSaid : Prop := amountReckonsRow.holds Try.pinned (OpenSpec.ofChange amountReckonsSpec)

/-- ITS FALSE NEIGHBOUR: 'it returns false'. Refute it at one input. -/
def amountReckonsWrong : ChangeSpec := { name := "amountReckons", fn := fun _ => fun
  | [d1, d2] => { results := [.lit (.bool false)], args := [d1, d2] }
  | _ => none }
def AmountReckonsWrongFalsely : Prop := amountReckonsRow.holds Try.pinned (OpenSpec.ofChange amountReckonsWrong)

/-- 'bourselaw19.AmountSums': WHATEVER THE INPUT: true; the input reads as it did. -/
def amountSumsSpec : ChangeSpec := { name := "amountSums", fn := fun _ => fun
  | [d] => { results := [.lit (.bool true)], args := [d] }
  | _ => none }
def amountSumsRow : OpenClaim := { program := "ytidbefagbjlomaa", sum := "a315682662aca3050ce72cc9cb45985e247c32d92ffdf093ed1d8bb53396f5bc", func := "bourse/bourselaw19.AmountSums", spec := "amountSums", apart := false }
def AmountSumsSaid : Prop := amountSumsRow.holds Try.pinned (OpenSpec.ofChange amountSumsSpec)

/-- ITS FALSE NEIGHBOUR: 'it returns false'. Refute it at one input. -/
def amountSumsWrong : ChangeSpec := { name := "amountSums", fn := fun _ => fun
  | [d] => { results := [.lit (.bool false)], args := [d] }
  | _ => none }
def AmountSumsWrongFalsely : Prop := amountSumsRow.holds Try.pinned (OpenSpec.ofChange amountSumsWrong)

/-- 'bourselaw19.AmountAffords': WHATEVER THE INPUT: true; the input reads as it did. -/
def amountAffordsSpec : ChangeSpec := { name := "amountAffords", fn := fun _ => fun
  | [d1, d2] => { results := [.lit (.bool true)], args := [d1, d2] }
  | _ => none }
def amountAffordsRow : OpenClaim := { program := "ytidbefagbjlomaa", sum := "a315682662aca3050ce72cc9cb45985e247c32d92ffdf093ed1d8bb53396f5bc", func := "bourse/bourselaw19.AmountAffords", spec := "amountAffords", apart := false }
def AmountAffordsSaid : Prop := amountAffordsRow.holds Try.pinned (OpenSpec.ofChange amountAffordsSpec)

/-- ITS FALSE NEIGHBOUR: 'it returns false'. Refute it at one input. -/
def amountAffordsWrong : ChangeSpec := { name := "amountAffords", fn := fun _ => fun
  | [d1, d2] => { results := [.lit (.bool false)], args := [d1, d2] }
  | _ => none }
def AmountAffordsWrongFalsely : Prop := amountAffordsRow.holds Try.pinned (OpenSpec.ofChange amountAffordsWrong)

/-- 'bourselaw19.AmountLaws': WHATEVER THE INPUT: true; the input reads as it did. -/
def amountLawsSpec : ChangeSpec := { name := "amountLaws", fn := fun _ => fun
  | [d1, d2] => { results := [.lit (.bool true)], args := [d1, d2] }
  | _ => none }
def amountLawsRow : OpenClaim := { program := "ytidbefagbjlomaa", sum := "a315682662aca3050ce72cc9cb45985e247c32d92ffdf093ed1d8bb53396f5bc", func := "bourse/bourselaw19.AmountLaws", spec := "amountLaws", apart := false }
def AmountLawsSaid : Prop := amountLawsRow.holds Try.pinned (OpenSpec.ofChange amountLawsSpec)

/-- ITS FALSE NEIGHBOUR: 'it returns false'. Refute it at one input. -/
def amountLawsWrong : ChangeSpec := { name := "amountLaws", fn := fun _ => fun
  | [d1, d2] => { results := [.lit (.bool false)], args := [d1, d2] }
  | _ => none }
def AmountLawsWrongFalsely : Prop := amountLawsRow.holds Try.pinned (OpenSpec.ofChange amountLawsWrong)

/- THE SECOND FORM. 'bulk': how many values and letters a reading holds, each counted each time it is reached (what is shared counts as often as it is met; a slice's spare places count too). A statement '..UptoSaid' is the law's where the arguments, and the package variables that the reading takes, are together of bulk at most 1048576: NARROWER than '..Said'. Prove '..Said' where nothing that the law and all that it calls make is longer than what came in: it says more and counts as full. Else prove '..UptoSaid'. A law counts once. -/
mutual
def uptoBulk {H : Type} : DataW H → Nat
  | .lit (.string bytes) => bytes.length + 1
  | .lit _ => 1
  | .nil => 1
  | .ptr d => uptoBulk d + 1
  | .slice elems spare => uptoBulkAll elems + uptoBulkAll spare + 1
  | .agg parts => uptoBulkAll parts + 1
  | .iface _ d => uptoBulk d + 1
  | .map entries => uptoBulkEntries entries + 1
  | .held _ => 1
def uptoBulkAll {H : Type} : List (DataW H) → Nat
  | [] => 0
  | d :: r => uptoBulk d + uptoBulkAll r
def uptoBulkEntries {H : Type} : List (Lit × DataW H) → Nat
  | [] => 0
  | x :: r => uptoBulkEntry x + uptoBulkEntries r
def uptoBulkEntry {H : Type} : Lit × DataW H → Nat
  | (.string bytes, d) => bytes.length + uptoBulk d + 1
  | (_, d) => uptoBulk d + 1
 end
def uptoSmall : (H : Type) → List (DataW H) → Bool := fun _ ds => decide (uptoBulkAll ds ≤ 1048576)
def OpenSpec.upto (s : _root_.Go.ChangeSpec) : _root_.Go.OpenSpec := { _root_.Go.OpenSpec.ofChange s with cond := some uptoSmall }

/-- 'bourselaw19.AmountReckons', WHERE WHAT IT READS IS OF BULK AT MOST 1048576: true; the input reads as it did. -/
def amountReckonsUptoRow : OpenClaim := { program := "ytidbefagbjlomaa", sum := "a315682662aca3050ce72cc9cb45985e247c32d92ffdf093ed1d8bb53396f5bc", func := "bourse/bourselaw19.AmountReckons", spec := "amountReckons", apart := false, narrowed := true }
def AmountReckonsUptoSaid : Prop := amountReckonsUptoRow.holds Try.pinned (OpenSpec.upto amountReckonsSpec)

/-- 'bourselaw19.AmountSums', WHERE WHAT IT READS IS OF BULK AT MOST 1048576: true; the input reads as it did. -/
def amountSumsUptoRow : OpenClaim := { program := "ytidbefagbjlomaa", sum := "a315682662aca3050ce72cc9cb45985e247c32d92ffdf093ed1d8bb53396f5bc", func := "bourse/bourselaw19.AmountSums", spec := "amountSums", apart := false, narrowed := true }
def AmountSumsUptoSaid : Prop := amountSumsUptoRow.holds Try.pinned (OpenSpec.upto amountSumsSpec)

/-- 'bourselaw19.AmountAffords', WHERE WHAT IT READS IS OF BULK AT MOST 1048576: true; the input reads as it did. -/
def amountAffordsUptoRow : OpenClaim := { program := "ytidbefagbjlomaa", sum := "a315682662aca3050ce72cc9cb45985e247c32d92ffdf093ed1d8bb53396f5bc", func := "bourse/bourselaw19.AmountAffords", spec := "amountAffords", apart := false, narrowed := true }
def AmountAffordsUptoSaid : Prop := amountAffordsUptoRow.holds Try.pinned (OpenSpec.upto amountAffordsSpec)

/-- 'bourselaw19.AmountLaws', WHERE WHAT IT READS IS OF BULK AT MOST 1048576: true; the input reads as it did. -/
def amountLawsUptoRow : OpenClaim := { program := "ytidbefagbjlomaa", sum := "a315682662aca3050ce72cc9cb45985e247c32d92ffdf093ed1d8bb53396f5bc", func := "bourse/bourselaw19.AmountLaws", spec := "amountLaws", apart := false, narrowed := true }
def AmountLawsUptoSaid : Prop := amountLawsUptoRow.holds Try.pinned (OpenSpec.upto amountLawsSpec)

end Rows
end Go.Proofs.Ytidbefagbjlomaa
