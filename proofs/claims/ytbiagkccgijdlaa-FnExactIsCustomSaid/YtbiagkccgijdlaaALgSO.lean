/- slices.SortFunc by handles: the row is sorted where it lies. Over any program that bears the library's text. -/
import Derived.Test.YtbiagkccgijdlaaALgR
import Derived.Test.YtbiagkccgijdlaaALgRM
import Derived.Shelf.SlSortCmp.NoneTotal
namespace Go.Lg
variable [GI]
set_option linter.unusedSectionVars false
set_option linter.unusedVariables false
set_option linter.unusedSimpArgs false
open Go.RowKit Go.Proofs Go.Shelf Go.Sort

structure LtOn (N : Nat) (lt : Nat → Nat → Bool) : Prop where
  irr : ∀ x, x < N → lt x x = false
  tr : ∀ x y z, x < N → y < N → z < N → lt x y = true → lt y z = true → lt x z = true
  nt : ∀ x y z, x < N → y < N → z < N → lt x y = false → lt y z = false → lt x z = false
  tot : ∀ x y, x < N → y < N → lt x y = false → lt y x = false → x = y

end Go.Lg

