/- The statement 'for .. := range iterator' is sound; the contract of a function that holds one. -/
import Derived.Test.YtbiagkccgijdlaaGreatALgRF
namespace Go.Lg
variable [GI]
set_option linter.unusedSectionVars false
set_option linter.unusedVariables false
set_option linter.unusedSimpArgs false
open Go.RowKit

section
variable {E : Env} {X : Nat → Prop} {B : Nat} {W0 : Orig}

end

/-! ### Code -/

section
variable {E : Env} {X : Nat → Prop} {B : Nat} {W0 : Orig}

theorem SR.ev {fr : Bool} {k : Nat} {ts : List LV} {H : List Blk} {a : Act} {w : World} (s : SR X B W0 fr k ⟨ts, H⟩ a w) {c : Operand} {b : Bool} (e : ev ts c = .bool b) : a.eval c = .bool b := by
  cases fr with
  | true =>
    obtain ⟨hk, pl, s⟩ := s
    have hv := ev_sound s c
    have e' : Go.Lg.ev (St.mk ts H).tmps c = .bool b := e
    rw [e'] at hv
    exact RT_bool hv
  | false =>
    obtain ⟨a0, X', W1, pl, d, rfl, hk, s, _⟩ := s
    have hv := ev_sound s c
    have e' : Go.Lg.ev (St.mk ts H).tmps c = .bool b := e
    rw [e'] at hv
    exact RT_bool hv

end

end Go.Lg

