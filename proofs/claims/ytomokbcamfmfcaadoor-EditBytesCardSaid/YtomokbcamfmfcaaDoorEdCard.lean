/-
  What the rows of edits share: a world in which the listed variables of the library lie. Conditions: as each theorem states.
-/
import Derived.Test.YtomokbcamfmfcaaDoorCards
import Derived.Test.YtomokbcamfmfcaaDoorTie
import Derived.Test.YtomokbcamfmfcaaDoorLaw
import Derived.Test.YtomokbcamfmfcaaDoorEdJ
import Derived.Test.YtomokbcamfmfcaaDoorEdB
import Derived.Stop.LaidErr
import Derived.Lay
import Derived.LaidMore
import Derived.SevenTiedAt
import Derived.Stop.Joined
import Derived.Deep.DeepHandedRow
import Derived.HandedShaped
namespace Go.Proofs.YtomokbcamfmfcaaDoor.Ed
open Go.ChangeShapes Go.WideShapes Go.ChangeAt Go.RowKit
open Go.Proofs.YtomokbcamfmfcaaDoor

theorem gPow : ∃ g, Tryd.prog.globalNamed "internal/strconv.uint64pow10" = some g ∧ (Tryd.prog.globals[g]?).map (·.type) = some 129 := ⟨2, by kernel_rfl, by kernel_rfl⟩
theorem gSyn : ∃ g, Tryd.prog.globalNamed "strconv.ErrSyntax" = some g ∧ (Tryd.prog.globals[g]?).map (·.type) = some 56 := ⟨0, by kernel_rfl, by kernel_rfl⟩
theorem gRng : ∃ g, Tryd.prog.globalNamed "strconv.ErrRange" = some g ∧ (Tryd.prog.globals[g]?).map (·.type) = some 56 := ⟨1, by kernel_rfl, by kernel_rfl⟩
theorem starErr : "*" ++ "errors.errorString" = "*errors.errorString" := by decide
theorem rowErr (u : TypeId) (h : Tryd.prog.typeName? 3 u = some "*errors.errorString") : u = 133 :=
  typeName_ptr_named (nm := "errors.errorString") (by rw [starErr]; kernel_rfl) (by kernel_rfl) (by decide) u (by rw [starErr]; exact h)
theorem pow_tab : (Rows.laid_internal_strconv_uint64pow10 : DataW Unit) = Lib.tabData .u64 Lib.pow10Tab := by kernel_rfl
theorem tab_of {W : World} {r : List (String × DataW Unit)} (h : laidMet Tryd.prog (("internal/strconv.uint64pow10", Rows.laid_internal_strconv_uint64pow10) :: r) W) : Tab W := by
  rw [pow_tab] at h
  obtain ⟨g, hg, ht⟩ := gPow
  exact Lib.tabIs_of_head hg ht Tryd.underlying129 Tryd.underlying22 (by kernel_rfl) (by kernel_rfl) h
theorem sent_of {W : World} {r : List (String × DataW Unit)} {n : String} {g : Nat} {text : List UInt8} (hg : Tryd.prog.globalNamed n = some g) (ht : (Tryd.prog.globals[g]?).map (·.type) = some 56) (h : laidMet Tryd.prog ((n, .iface "*errors.errorString" (.ptr (.agg [.lit (.string text)]))) :: r) W) : Sent W n := by
  obtain ⟨a, s, hv, -, -, -⟩ := laid_sentinel h hg ht Tryd.underlying56 rowErr Tryd.underlying133 Tryd.underlying135 rfl rfl Tryd.underlying9 (by kernel_rfl) (by kernel_rfl)
  exact ⟨_, _, hv⟩
theorem known_of {W : World} (h : laidMet Tryd.prog Rows.editNamesRow.laid W) : Known W := by
  have h3 : laidMet Tryd.prog _ W := h.tail.tail
  obtain ⟨g1, a1, b1⟩ := gRng
  obtain ⟨g2, a2, b2⟩ := gSyn
  exact ⟨tab_of h3, sent_of a2 b2 h3.tail.tail, sent_of a1 b1 h3.tail⟩
end Go.Proofs.YtomokbcamfmfcaaDoor.Ed
