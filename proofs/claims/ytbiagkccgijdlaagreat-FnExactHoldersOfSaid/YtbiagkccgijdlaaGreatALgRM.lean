/- Contracts by values out of contracts by handles, for several results. -/
import Derived.Test.YtbiagkccgijdlaaGreatALgMF
namespace Go.Lg
variable [GI]
set_option linter.unusedSectionVars false
set_option linter.unusedVariables false
set_option linter.unusedSimpArgs false
open Go.RowKit

end Go.Lg

