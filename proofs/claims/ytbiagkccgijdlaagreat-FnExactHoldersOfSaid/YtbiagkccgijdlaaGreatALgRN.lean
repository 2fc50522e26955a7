/- Rules for the walk: an iterator's loops; a range over a function, its state told by how many have come. -/
import Derived.Test.YtbiagkccgijdlaaGreatALgRG
namespace Go.Lg
variable [GI]
set_option linter.unusedSectionVars false
set_option linter.unusedVariables false
set_option linter.unusedSimpArgs false
open Go.RowKit

end Go.Lg

