/- Code walked in a round of a range over a function, or where calls are deferred already: the same logic, inside a fence. -/
import Derived.Test.YtbiagkccgijdlaaGreatALgN
import Derived.RangeFuncMany
import Derived.RangeFuncLeaves
import Derived.TacticsIn
import Derived.OrdersIn
namespace Go.Lg
variable [GI]
set_option linter.unusedSectionVars false
set_option linter.unusedVariables false
set_option linter.unusedSimpArgs false
open Go.RowKit

/-- The wide fence, in a round or not. -/
@[reducible] def wr (ro : Option Nat) : Fence := { Fence.wide with round := ro }

/-- Deferred calls that were there before. -/
def _root_.Go.Act.ap (a : Act) (D : List Deferred) : Act := { a with defers := a.defers ++ D }
section
variable {P : Program} {ro : Option Nat} {n : Nat} {D : List Deferred}

end

end Go.Lg

