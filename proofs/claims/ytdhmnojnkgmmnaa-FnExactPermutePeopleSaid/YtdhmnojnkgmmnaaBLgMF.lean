/- Contracts by values out of contracts by handles: what is made is handed out, rows of rows frozen below. -/
import Derived.Test.YtdhmnojnkgmmnaaBLgN
namespace Go.Lg
variable [GI]
set_option linter.unusedSectionVars false
set_option linter.unusedVariables false
set_option linter.unusedSimpArgs false
open Go.RowKit

theorem pctx_ctx0 {w : World} {O : Nat → Prop} {pl : Nat → PV} : (pctx O w).Le (ctx O [] pl w) :=
  ⟨Nat.le_refl _, fun _ _ _ => rfl, fun b _ k => (by
    rcases k with k | ⟨id, blk, h, _⟩
    · exact k
    · simp at h), fun _ _ _ k => k.elim, fun _ _ _ _ k => k.elim⟩

end Go.Lg

