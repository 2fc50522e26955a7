/- An iterator's code: regions with a call of yield, in any order; the contract. -/
import Derived.Test.YtbiagkccgijdlaaGreatALgRC
namespace Go.Lg
variable [GI]
set_option linter.unusedSectionVars false
set_option linter.unusedVariables false
set_option linter.unusedSimpArgs false
open Go.RowKit

section
variable {J : List (List LV) → Inv3} {Jx : Inv3} {E : Env} {l : Nat} {xs : List (List LV)}

end

/-! ### Code -/

section
variable {J : List (List LV) → Inv3} {Jx : Inv3} {E : Env} {l : Nat} {xs : List (List LV)}

theorem SY.rs {p : Pre} {k : Nat} {s : St} {a : Act} {w : World} (h : SY J Jx p k s a w) : ∃ O w0, RS J Jx O w0 p k s a w := by
  obtain ⟨W0, O, B, pl, h0, s, hj⟩ := h
  exact ⟨O, w, W0, O, B, pl, h0, s, hj, FrL.refl _ _, fun _ _ h => h⟩
theorem RS.sy {O : Nat → Prop} {w0 : World} {p : Pre} {k : Nat} {s : St} {a : Act} {w : World} (h : RS J Jx O w0 p k s a w) : SY J Jx p k s a w := by
  obtain ⟨W0, O, B, pl, h0, s, hj, _⟩ := h
  exact ⟨W0, O, B, pl, h0, s, hj⟩

end

end Go.Lg

