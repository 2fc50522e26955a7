/- Loops by an invariant over a few temporaries; small lemmas for the walk over readings. -/
import Derived.Test.YtbiagkccgijdlaaGreatALgM
import Derived.IntWalk
namespace Go.Lg
variable [GI]
set_option linter.unusedSectionVars false
set_option linter.unusedVariables false
set_option linter.unusedSimpArgs false
open Go.RowKit

def memN : Nat → List Nat → Bool
  | _, [] => false
  | n, x :: xs => match Nat.beq x n with | true => true | false => memN n xs

def lookS : Nat → List (Nat × LV) → Option LV
  | _, [] => none
  | n, (k, x) :: xs => match Nat.beq k n with | true => some x | false => lookS n xs

/-- The temporaries at a loop's head: the named slots hold what is said, what the round writes besides is forgotten. -/
def mask (wr : List Nat) (sl : List (Nat × LV)) : Nat → List LV → List LV
  | _, [] => []
  | i, x :: xs => (match lookS i sl with | some y => y | none => match memN i wr with | true => .undef | false => x) :: mask wr sl (i + 1) xs

/-- The temporaries that a piece of code writes. -/
def wrOps : List Oper → List Nat
  | [] => []
  | o :: os => match o.dst with | some d => d :: wrOps os | none => wrOps os
def wrOf : Code → List Nat
  | .region _ ops _ => wrOps ops.toList
  | .seq x y => wrOf x ++ wrOf y
  | .cond _ x y => wrOf x ++ wrOf y
  | .block _ b => wrOf b
  | .loop b => wrOf b
  | _ => []

/-- The list written out. -/
def forceL : List LV → (List LV → Prop) → Prop
  | [], K => K []
  | x :: xs, K => headK x fun y => forceL xs fun ys => K (y :: ys)
theorem forceL_eq : ∀ (l : List LV) (K : List LV → Prop), forceL l K = K l
  | [], _ => rfl
  | x :: xs, K => by simp only [forceL, headK_eq, forceL_eq xs]

/-- What holds at a loop's head. -/
def headI {α : Type} (wr : List Nat) (ts : List LV) (sl : α → List (Nat × LV)) (hp : α → List Blk) (μ : α → Nat) (Inv : α → Prop) (n : Nat) (ts1 : List LV) (H1 : List Blk) : Prop :=
  ∃ x, Inv x ∧ μ x = n ∧ ts1 = mask wr (sl x) 0 ts ∧ H1 = hp x

/-- At a round's end. -/
def roundW {α : Type} (n0 : Nat) (wr : List Nat) (ts : List LV) (sl : α → List (Nat × LV)) (hp : α → List Blk) (μ : α → Nat) (Inv : α → Prop) (n : Nat) (ts' : List LV) (H' : List Blk) : Prop :=
  ∃ m ts'' H'', m < n ∧ Weak n0 ts' H' ts'' H'' ∧ headI wr ts sl hp μ Inv m ts'' H''

theorem round_end {α : Type} {n0 : Nat} {wr : List Nat} {ts : List LV} {sl : α → List (Nat × LV)} {hp : α → List Blk} {μ : α → Nat} {Inv : α → Prop} {n : Nat} {ts' : List LV} {H' : List Blk} (y : α)
    (hy : Inv y) (hm : μ y < n) (hw : weak n0 ts' H' (mask wr (sl y) 0 ts) (hp y)) : roundW n0 wr ts sl hp μ Inv n ts' H' :=
  ⟨μ y, _, _, hm, .inl hw, y, hy, rfl, rfl, rfl⟩
theorem round_endR {α : Type} {n0 : Nat} {wr : List Nat} {ts : List LV} {sl : α → List (Nat × LV)} {hp : α → List Blk} {μ : α → Nat} {Inv : α → Prop} {n : Nat} {ts' : List LV} {H' : List Blk} (σ : List Kp) (y : α)
    (hy : Inv y) (hm : μ y < n) (hw : weakR n0 σ ts' H' (mask wr (sl y) 0 ts) (hp y)) : roundW n0 wr ts sl hp μ Inv n ts' H' :=
  ⟨μ y, _, _, hm, .inr ⟨σ, hw⟩, y, hy, rfl, rfl, rfl⟩

theorem loop_ruleW {E : Env} {c : Code} {ts : List LV} {H : List Blk} {K : Ex → List LV → List Blk → Prop} {α : Type}
    (sl : α → List (Nat × LV)) (hp : α → List Blk) (μ : α → Nat) (Inv : α → Prop) (x0 : α) (h0 : Inv x0) (hw : Weak E.n0 ts H (mask (wrOf c) (sl x0) 0 ts) (hp x0))
    (step : ∀ x, Inv x → forceL (mask (wrOf c) (sl x) 0 ts) fun ts1 => codeW E c ts1 (hp x) fun e ts' H' => match e with
      | .normal => roundW E.n0 (wrOf c) ts sl hp μ Inv (μ x) ts' H'
      | .exit id => kk K (.exit id) ts' H'
      | .ret => kk K .ret ts' H') : loopW E.n0 c (codeW E c) ts H K := by
  unfold loopW
  refine ⟨headI (wrOf c) ts sl hp μ Inv, ⟨μ x0, _, _, hw, x0, h0, rfl, rfl, rfl⟩, ?_⟩
  rintro n ts1 H1 ⟨x, hx, rfl, rfl, rfl⟩
  have := step x hx
  rw [forceL_eq] at this
  exact this

theorem loop_rule {E : Env} {c : Code} {ts : List LV} {H : List Blk} {K : Ex → List LV → List Blk → Prop} {α : Type}
    (sl : α → List (Nat × LV)) (hp : α → List Blk) (μ : α → Nat) (Inv : α → Prop) (x0 : α) (h0 : Inv x0) (hw : weak E.n0 ts H (mask (wrOf c) (sl x0) 0 ts) (hp x0))
    (step : ∀ x, Inv x → forceL (mask (wrOf c) (sl x) 0 ts) fun ts1 => codeW E c ts1 (hp x) fun e ts' H' => match e with
      | .normal => roundW E.n0 (wrOf c) ts sl hp μ Inv (μ x) ts' H'
      | .exit id => kk K (.exit id) ts' H'
      | .ret => kk K .ret ts' H') : loopW E.n0 c (codeW E c) ts H K := loop_ruleW sl hp μ Inv x0 h0 (.inl hw) step

theorem loop_ruleR {E : Env} {c : Code} {ts : List LV} {H : List Blk} {K : Ex → List LV → List Blk → Prop} {α : Type} (σ : List Kp)
    (sl : α → List (Nat × LV)) (hp : α → List Blk) (μ : α → Nat) (Inv : α → Prop) (x0 : α) (h0 : Inv x0) (hw : weakR E.n0 σ ts H (mask (wrOf c) (sl x0) 0 ts) (hp x0))
    (step : ∀ x, Inv x → forceL (mask (wrOf c) (sl x) 0 ts) fun ts1 => codeW E c ts1 (hp x) fun e ts' H' => match e with
      | .normal => roundW E.n0 (wrOf c) ts sl hp μ Inv (μ x) ts' H'
      | .exit id => kk K (.exit id) ts' H'
      | .ret => kk K .ret ts' H') : loopW E.n0 c (codeW E c) ts H K := loop_ruleW sl hp μ Inv x0 h0 (.inr ⟨σ, hw⟩) step

theorem loop_ruleN {E : Env} {c : Code} {ts : List LV} {H : List Blk} {K : Ex → List LV → List Blk → Prop} {α : Type} (ns : List Nl) (σ : List Kp)
    (sl : α → List (Nat × LV)) (hp : α → List Blk) (μ : α → Nat) (Inv : α → Prop) (x0 : α) (h0 : Inv x0) (hw : nilK ns ts H fun ts1 H1 => weakR E.n0 σ ts1 H1 (mask (wrOf c) (sl x0) 0 ts) (hp x0))
    (step : ∀ x, Inv x → forceL (mask (wrOf c) (sl x) 0 ts) fun ts1 => codeW E c ts1 (hp x) fun e ts' H' => match e with
      | .normal => roundW E.n0 (wrOf c) ts sl hp μ Inv (μ x) ts' H'
      | .exit id => kk K (.exit id) ts' H'
      | .ret => kk K .ret ts' H') : loopW E.n0 c (codeW E c) ts H K := loop_ruleW sl hp μ Inv x0 h0 (.nl ns σ hw) step

theorem wrap64 {n : Int} (h1 : -9223372036854775808 ≤ n) (h2 : n ≤ 9223372036854775807) : IntKind.i64.wrap n = n := IntWalk.i64_in n ⟨h1, h2⟩

theorem fin {p : Prop} (h : p) : p ∧ (fun ids : List Nat => ids.Nodup) [] := ⟨h, List.nodup_nil⟩
theorem brT {A C : Prop} (h : A) : (true = true → A) ∧ (true = false → C) := ⟨fun _ => h, fun k => Bool.noConfusion k⟩
theorem brF {A C : Prop} (h : C) : (false = true → A) ∧ (false = false → C) := ⟨fun k => Bool.noConfusion k, fun _ => h⟩

theorem ltI_t {a b : Int} : ltI a b = true ↔ a < b := by unfold ltI; simp
theorem ltI_f {a b : Int} : ltI a b = false ↔ b ≤ a := by unfold ltI; simp
theorem leI_t {a b : Int} : leI a b = true ↔ a ≤ b := by unfold leI; simp
theorem leI_f {a b : Int} : leI a b = false ↔ b < a := by unfold leI; simp
theorem eqI_t {a b : Int} : eqI a b = true ↔ a = b := by unfold eqI; simp
theorem eqI_f {a b : Int} : eqI a b = false ↔ a ≠ b := by unfold eqI; simp
theorem notB_t {b : Bool} : notB b = true ↔ b = false := by unfold notB; simp
theorem notB_f {b : Bool} : notB b = false ↔ b = true := by unfold notB; simp

/-- The counter's step. -/
theorem step_i {k n : Nat} (h : k < n) (hn : n ≤ maxLen) : LV.int .i64 (IntKind.i64.wrap ((k : Int) + 1)) = LV.int .i64 ((k + 1 : Nat) : Int) := by
  unfold maxLen at hn
  rw [wrap64 (by omega) (by omega)]
  rfl

theorem FSpec.run {P : Program} {f : FuncId} {args : List LV} {r : LV} (h : FSpec P f args r) : ∀ (w : World) (O : Nat → Prop) (vs : Array Value), GI.I w.heap.size w → (∀ b, O b → b < w.heap.size) → vs.size = args.length →
    (∀ (i : Nat) x v, args[i]? = some x → vs[i]? = some v → RT (pctx O w) x v) →
    Calls P f vs w fun e w' => ∃ v, e = .returned v ∧ Below w.heap.size w w' ∧ Res w.heap.size O w' r v := by unfold FSpec at h; exact h.2
attribute [irreducible] roundW
end Go.Lg

