/- Loops by an invariant over a few temporaries; small lemmas for the walk over readings. -/
import Derived.Test.YtbiagkccgijdlaaALgM
import Derived.IntWalk
namespace Go.Lg
variable [GI]
set_option linter.unusedSectionVars false
set_option linter.unusedVariables false
set_option linter.unusedSimpArgs false
open Go.RowKit

def memN : Nat → List Nat → Bool
  | _, [] => false
  | n, x :: xs => match Nat.beq x n with | true => true | false => memN n xs

def lookS : Nat → List (Nat × LV) → Option LV
  | _, [] => none
  | n, (k, x) :: xs => match Nat.beq k n with | true => some x | false => lookS n xs

/-- The temporaries at a loop's head: the named slots hold what is said, what the round writes besides is forgotten. -/
def mask (wr : List Nat) (sl : List (Nat × LV)) : Nat → List LV → List LV
  | _, [] => []
  | i, x :: xs => (match lookS i sl with | some y => y | none => match memN i wr with | true => .undef | false => x) :: mask wr sl (i + 1) xs

/-- What holds at a loop's head. -/
def headI {α : Type} (wr : List Nat) (ts : List LV) (sl : α → List (Nat × LV)) (hp : α → List Blk) (μ : α → Nat) (Inv : α → Prop) (n : Nat) (ts1 : List LV) (H1 : List Blk) : Prop :=
  ∃ x, Inv x ∧ μ x = n ∧ ts1 = mask wr (sl x) 0 ts ∧ H1 = hp x

/-- At a round's end. -/
def roundW {α : Type} (n0 : Nat) (wr : List Nat) (ts : List LV) (sl : α → List (Nat × LV)) (hp : α → List Blk) (μ : α → Nat) (Inv : α → Prop) (n : Nat) (ts' : List LV) (H' : List Blk) : Prop :=
  ∃ m ts'' H'', m < n ∧ Weak n0 ts' H' ts'' H'' ∧ headI wr ts sl hp μ Inv m ts'' H''

theorem fin {p : Prop} (h : p) : p ∧ (fun ids : List Nat => ids.Nodup) [] := ⟨h, List.nodup_nil⟩
theorem brT {A C : Prop} (h : A) : (true = true → A) ∧ (true = false → C) := ⟨fun _ => h, fun k => Bool.noConfusion k⟩
theorem brF {A C : Prop} (h : C) : (false = true → A) ∧ (false = false → C) := ⟨fun k => Bool.noConfusion k, fun _ => h⟩

theorem ltI_t {a b : Int} : ltI a b = true ↔ a < b := by unfold ltI; simp
theorem ltI_f {a b : Int} : ltI a b = false ↔ b ≤ a := by unfold ltI; simp
theorem leI_t {a b : Int} : leI a b = true ↔ a ≤ b := by unfold leI; simp
theorem leI_f {a b : Int} : leI a b = false ↔ b < a := by unfold leI; simp
theorem eqI_t {a b : Int} : eqI a b = true ↔ a = b := by unfold eqI; simp
theorem eqI_f {a b : Int} : eqI a b = false ↔ a ≠ b := by unfold eqI; simp
theorem notB_t {b : Bool} : notB b = true ↔ b = false := by unfold notB; simp
theorem FSpec.run {P : Program} {f : FuncId} {args : List LV} {r : LV} (h : FSpec P f args r) : ∀ (w : World) (O : Nat → Prop) (vs : Array Value), GI.I w.heap.size w → (∀ b, O b → b < w.heap.size) → vs.size = args.length →
    (∀ (i : Nat) x v, args[i]? = some x → vs[i]? = some v → RT (pctx O w) x v) →
    Calls P f vs w fun e w' => ∃ v, e = .returned v ∧ Below w.heap.size w w' ∧ Res w.heap.size O w' r v := by unfold FSpec at h; exact h.2
attribute [irreducible] roundW
end Go.Lg

