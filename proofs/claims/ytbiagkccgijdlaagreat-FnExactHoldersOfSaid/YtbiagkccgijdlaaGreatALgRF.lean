/- The statement 'for .. := range iterator' is sound: a round. -/
import Derived.Test.YtbiagkccgijdlaaGreatALgRE
namespace Go.Lg
variable [GI]
set_option linter.unusedSectionVars false
set_option linter.unusedVariables false
set_option linter.unusedSimpArgs false
open Go.RowKit

/-- The state of a function's run: before its range over a function (true), or behind it, a mark among its deferred calls (false). -/
def SR (X : Nat → Prop) (B : Nat) (W0 : Orig) (fr : Bool) (k : Nat) (s : St) (a : Act) (w : World) : Prop := match fr with
  | true => W0.H.length = k ∧ ∃ pl, Sim X B W0 s a w pl
  | false => ∃ a0 X' W1 pl d, a = Act.ap a0 [{ target := .collected d, args := #[] }] ∧ W1.H.length = k ∧ Sim X' B W1 s a0 w pl ∧ X' d ∧ W0.w.heap.size ≤ d ∧ W1.w.heap[d]? = some (.deferred (some [])) ∧ Back X B W0 X' W1

section
variable {E : Env} {X : Nat → Prop} {B : Nat} {W0 : Orig} {X2 : Nat → Prop} {tsW : List LV} {a : Act} {l D S : Nat}

end
end Go.Lg

