/- An iterator's code, walked; its contract out of it. -/
import Derived.Test.YtbiagkccgijdlaaGreatALgRB
namespace Go.Lg
variable [GI]
set_option linter.unusedSectionVars false
set_option linter.unusedVariables false
set_option linter.unusedSimpArgs false
open Go.RowKit

section
variable {E : Env} {X : Nat → Prop} {B : Nat} {W0 : Orig} {ts : List LV} {H : List Blk} {a : Act} {pl : Nat → PV} {w : World}

end

section
variable {J : List (List LV) → Inv3} {Jx : Inv3} {E : Env} {l : Nat} {xs : List (List LV)}

/-- What a round owes, and what is owed it. -/
structure YOK (P : Program) (l : Nat) (xs : List (List LV)) (J : List (List LV) → Inv3) (Jx : Inv3) : Prop where
  iJ : ∀ pre W O Y, J pre W O Y → GI.F W
  iX : ∀ W O Y, Jx W O Y → GI.F W
  hJ : ∀ pre W O Y, J pre W O Y → ∀ b, O b → b < W.heap.size ∧ ¬ Y b
  hX : ∀ W O Y, Jx W O Y → ∀ b, O b → b < W.heap.size ∧ ¬ Y b
  gJ : ∀ pre W O Y W' Y', J pre W O Y → Grown W Y W' Y' → J pre W' O Y'
  gX : ∀ W O Y W' Y', Jx W O Y → Grown W Y W' Y' → Jx W' O Y'
  hY : ∀ pre x W1 O1 Y (vs : Array Value), J pre W1 O1 Y → (∃ post, xs = pre ++ x :: post) → vs.size = x.length → (∀ (i : Nat) y v, x[i]? = some y → vs[i]? = some v → RT (pctx (fun b => O1 b ∨ Y b) W1) y v) →
      YieldAt Fence.wide 0 P l vs W1 fun e W' =>
        (e = .returned (.bool true) ∧ ∃ O', J (pre ++ [x]) W' O' Y ∧ (pctx O1 W1).Le (pctx O' W')) ∨ (e = .returned (.bool false) ∧ ∃ O', Jx W' O' Y ∧ (pctx O1 W1).Le (pctx O' W'))

/-- The state within a drawn region. -/
def RS (J : List (List LV) → Inv3) (Jx : Inv3) (O0 : Nat → Prop) (w0 : World) (p : Pre) (k : Nat) (s : St) (a : Act) (w : World) : Prop :=
  ∃ W0 O B pl, W0.H.length = k ∧ Sim O B W0 s a w pl ∧ going J Jx p W0.w O (Yo W0.H W0.pl) ∧ FrL O0 w0 w ∧ ∀ b, b < w0.heap.size → O b → O0 b

end
end Go.Lg

