/- Contracts by values out of contracts by handles: what is made is handed out, rows of rows frozen below. -/
import Derived.Test.YtbiagkccgijdlaaALgN
namespace Go.Lg
variable [GI]
set_option linter.unusedSectionVars false
set_option linter.unusedVariables false
set_option linter.unusedSimpArgs false
open Go.RowKit

end Go.Lg

