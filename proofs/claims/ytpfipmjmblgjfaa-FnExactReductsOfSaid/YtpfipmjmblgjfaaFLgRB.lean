/- Iterators: what a function that calls yield gives, one after the other. What the iterator owns and what the rounds own stand apart. -/
import Derived.Test.YtpfipmjmblgjfaaFLgRA
namespace Go.Lg
variable [GI]
set_option linter.unusedSectionVars false
set_option linter.unusedVariables false
set_option linter.unusedSimpArgs false
open Go.RowKit

/-- An iterator's steps between two rounds: it turns what it owns, and lays new blocks. -/
structure Grown (W : World) (Y : Nat → Prop) (W' : World) (Y' : Nat → Prop) : Prop where
  os : W'.os = W.os
  tape : W'.tape = W.tape
  output : W'.output = W.output
  size : W.heap.size ≤ W'.heap.size
  keep : ∀ b, b < W.heap.size → ¬ Y b → W'.heap[b]? = W.heap[b]?
  own : ∀ b, b < W.heap.size → Y' b → Y b
  lt : ∀ b, Y' b → b < W'.heap.size

abbrev Inv3 := World → (Nat → Prop) → (Nat → Prop) → Prop

/-- The contract of an iterator: called with yield it hands out 'xs', one after the other, as long as a round says that it goes on. -/
@[irreducible] def GSpec (P : Program) (g : FuncId) (caps : List LV) (xs : List (List LV)) : Prop :=
  (∀ (vs : Array Value) (w : World), (callFunc g vs).run P w = .ok (.enter g vs) w) ∧
  ∀ (l : Nat) (J : List (List LV) → Inv3) (Jx : Inv3) (W : World) (O : Nat → Prop) (lb : Array Value),
    GI.I W.heap.size W → (∀ pre W O Y, J pre W O Y → GI.F W) → (∀ W O Y, Jx W O Y → GI.F W) →
    (∀ pre W O Y, J pre W O Y → ∀ b, O b → b < W.heap.size ∧ ¬ Y b) → (∀ W O Y, Jx W O Y → ∀ b, O b → b < W.heap.size ∧ ¬ Y b) →
    (∀ pre W O Y W' Y', J pre W O Y → Grown W Y W' Y' → J pre W' O Y') → (∀ W O Y W' Y', Jx W O Y → Grown W Y W' Y' → Jx W' O Y') →
    lb.size = caps.length → (∀ (i : Nat) x v, caps[i]? = some x → lb[i]? = some v → RT (pctx O W) x v) →
    (∀ pre x W1 O1 Y (vs : Array Value), J pre W1 O1 Y → (∃ post, xs = pre ++ x :: post) → vs.size = x.length → (∀ (i : Nat) y v, x[i]? = some y → vs[i]? = some v → RT (pctx (fun b => O1 b ∨ Y b) W1) y v) →
      YieldAt Fence.wide 0 P l vs W1 fun e W' =>
        (e = .returned (.bool true) ∧ ∃ O', J (pre ++ [x]) W' O' Y ∧ (pctx O1 W1).Le (pctx O' W')) ∨ (e = .returned (.bool false) ∧ ∃ O', Jx W' O' Y ∧ (pctx O1 W1).Le (pctx O' W'))) →
    J [] W O (fun _ => False) →
    Calls P g (#[.func (.yield l) #[] #[]] ++ lb) W fun e W' => (∃ v, e = .returned v) ∧ ((∃ O' Y, J xs W' O' Y) ∨ ∃ O' Y, Jx W' O' Y)

abbrev Pre := Option (List (List LV))

/-- What the blocks own. -/
def Yo (H : List Blk) (pl : Nat → PV) (b : Nat) : Prop := ∃ (id : Nat) (blk : Blk), H[id]? = some blk ∧ blk.live ∧ b ∈ blk.feet (pl id)
theorem owned_iff {X : Nat → Prop} {H : List Blk} {pl : Nat → PV} {b : Nat} : owned X H pl b ↔ X b ∨ Yo H pl b := Iff.rfl

section
variable {J : List (List LV) → Inv3} {Jx : Inv3}

def going (J : List (List LV) → Inv3) (Jx : Inv3) : Pre → Inv3
  | some pre => J pre
  | none => Jx

theorem Sim.self {X : Nat → Prop} {B : Nat} {W0 : Orig} {s : St} {a : Act} {w : World} {pl : Nat → PV} (h : Sim X B W0 s a w pl) : Sim X B ⟨w, s.heap, pl⟩ s a w pl :=
  ⟨⟨Below.refl _ _, h.good.base', h.good.ok, h.good.inj, h.good.nd, fun b hb => Nat.lt_of_lt_of_le (h.good.xlt b hb) h.good.below.size, fun _ _ => rfl, h.good.apart⟩, h.defers, h.size, h.tmps, Ctx.Le.refl _⟩

theorem Sim.moved {X : Nat → Prop} {B : Nat} {W0 : Orig} {s : St} {a : Act} {w : World} {pl : Nat → PV} (h : Sim X B W0 s a w pl) : Grown W0.w (Yo W0.H W0.pl) w (Yo s.heap pl) := by
  refine ⟨h.good.below.os, h.good.below.tape, h.good.below.output, h.good.below.size, fun b hb hy => ?_, fun b hb hy => ?_, fun b hy => owned_lt h.good (.inr hy)⟩
  · by_cases hx : X b
    · exact h.good.keepX b hx
    · exact h.le.keep b hb fun o => by rcases o with o | o; exact hx o; exact hy o
  · have ho := h.le.own b hb (.inr hy)
    rcases ho with ho | ho
    · obtain ⟨id, blk, h1, h2, h3⟩ := hy
      exact absurd ho (h.good.apart id blk b h1 h2 h3)
    · exact ho

/-- Behind a round: what the iterator owns and reads is as it was. -/
theorem Sim.round {O O' : Nat → Prop} {B : Nat} {H : List Blk} {w W' : World} {ts : List LV} {a : Act} {pl : Nat → PV} (s : Sim O B ⟨w, H, pl⟩ ⟨ts, H⟩ a w pl) (hF : GI.F W') (hO : ∀ b, O' b → b < W'.heap.size ∧ ¬ Yo H pl b)
    (hl : (pctx O w).Le (pctx O' W')) : Sim O' B ⟨W', H, pl⟩ ⟨ts, H⟩ a W' pl := by
  have hle : (ctx O H pl w).Le (ctx O' H pl W') := ⟨hl.size, fun b hb ho => hl.keep b hb fun k => ho (.inl k), fun b hb o => by
    rcases o with o | o
    · exact .inl (hl.own b hb o)
    · exact .inr o, fun _ _ _ h => h, fun _ _ _ _ h => h⟩
  have hft : ∀ {id : Nat} {blk : Blk} {b : Nat}, H[id]? = some blk → blk.live → b ∈ blk.feet (pl id) → W'.heap[b]? = w.heap[b]? := fun {id blk b} h1 h2 h3 =>
    hl.keep b (owned_lt s.good (.inr ⟨id, blk, h1, h2, h3⟩)) fun o => s.good.apart id blk b h1 h2 h3 o
  refine ⟨⟨Below.refl _ _, ⟨Nat.le_trans s.good.base.1 hl.size, s.good.base.2.1, hF⟩, fun id blk hb => ?_, s.good.inj, s.good.nd, fun b hb => (hO b hb).1, fun _ _ => rfl, fun id blk b h1 h2 h3 o => (hO b o).2 ⟨id, blk, h1, h2, h3⟩⟩, s.defers, s.size, fun t x hx => RT.mono hle _ _ (s.tmps t x hx), Ctx.Le.refl _⟩
  by_cases hlv : blk.live
  · exact BlkOK.mono hle (fun b hf => hft hb hlv hf) (s.good.ok id blk hb)
  · cases blk <;> first | trivial | exact absurd trivial hlv

/-- The state of an iterator's run: so many blocks are its own since the last round. -/
def SY (J : List (List LV) → Inv3) (Jx : Inv3) (p : Pre) (k : Nat) (s : St) (a : Act) (w : World) : Prop :=
  ∃ W0 O B pl, W0.H.length = k ∧ Sim O B W0 s a w pl ∧ going J Jx p W0.w O (Yo W0.H W0.pl)

theorem going_grow (gJ : ∀ pre W O Y W' Y', J pre W O Y → Grown W Y W' Y' → J pre W' O Y') (gX : ∀ W O Y W' Y', Jx W O Y → Grown W Y W' Y' → Jx W' O Y') {p : Pre} {W : World} {O Y : Nat → Prop} {W' : World} {Y' : Nat → Prop}
    (h : going J Jx p W O Y) (g : Grown W Y W' Y') : going J Jx p W' O Y' := by
  cases p with
  | none => exact gX _ _ _ _ _ h g
  | some pre => exact gJ _ _ _ _ _ _ h g
end

/-! ### Drawn regions, inside the wide fence: reads taken first -/
section
variable {P : Program} {n : Nat} {ops : Array Oper} {md : Region.Mode} {Q : Exit → Act → World → Prop} {S : World → Prop}

theorem YieldsIf.opIn {i : Nat} {o : Oper} {v : Value} {a : Act} (hi : ops[i]? = some o) (hy : YieldsIf P ops S o v a) {K : Act → World → Prop} {w : World} (hS : S w) (h : K (a.put o.dst v) w) :
    wpOpIn Fence.wide n P ops Q i K a w := by
  unfold wpOpIn
  simp only [hi]
  rcases hy with ⟨hw, hv⟩ | ⟨hw, rfl⟩
  · simp only [hw, if_true]
    refine ⟨fun _ _ => trivial, ?_⟩
    have : o.semAt Fence.wide.round a.eval = execOp a.eval o := Oper.semAt_none _ _
    rw [this, hv w hS]
    exact h
  · simp only [hw, Bool.false_eq_true, if_false]; exact ⟨fun _ _ => trivial, h⟩

theorem opIn_put {j : Nat} {oi oj : Oper} {v : Value} (hj : ops[j]? = some oj) (hap : oi.apart ops oj = true) (hsi : ∀ cs b, oi.op ≠ .select cs b) (hsj : ∀ cs b, oj.op ≠ .select cs b)
    (hQ : ∀ c a w, ¬ Q (.panic c) a w) {K : Act → World → Prop} {a : Act} {w : World} (hy : YieldsIf P ops S oi v a) (h : wpOpIn Fence.wide n P ops Q j K (a.put oi.dst v) w) :
    wpOpIn Fence.wide n P ops Q j (fun a' w' => YieldsIf P ops S oi v a' ∧ K (a'.put oi.dst v) w') a w := by
  obtain ⟨h1, h2, h3⟩ := Oper.apart_spec hap
  have keep : ∀ (a : Act), YieldsIf P ops S oi v a → ∀ u, YieldsIf P ops S oi v (a.put oj.dst u) := fun a hy u =>
    hy.of_same (execOp_put oi hsi a oj.dst u h3) (wanted_put oi a oj.dst u h3)
  have keepD : ∀ d, YieldsIf P ops S oi v { a with defers := d :: a.defers } := fun d => hy.of_same rfl rfl
  have sem : ∀ ρ : Operand → Value, oj.semAt Fence.wide.round ρ = execOp ρ oj := fun ρ => Oper.semAt_none _ _
  unfold wpOpIn at *
  simp only [hj] at *
  rw [wanted_put oj a oi.dst v h1] at h
  split
  · rename_i hw
    simp only [hw, if_true] at h
    refine ⟨fun _ _ => trivial, ?_⟩
    have h := h.2
    rw [sem, execOp_put oj hsj a oi.dst v h1] at h
    rw [sem]
    generalize (execOp a.eval oj).run P w = r at h ⊢
    cases r with
    | ok x w' =>
      cases x <;> simp only [Oper.uponIn] at h ⊢
      case value u => exact ⟨keep a hy u, by rw [← Act.put_comm a v u h2]; exact h⟩
      case skip => exact ⟨keep a hy _, by rw [← Act.put_comm a v undef h2]; exact h⟩
      case defer d =>
        refine ⟨keep _ (keepD d) _, ?_⟩
        rw [← Act.put_comm _ v undef h2, ← Act.put_defers]
        exact h
      case enter f args =>
        refine ⟨h.1, CallsIn.mono h.2 fun e w'' he => ?_⟩
        cases e with
        | returned u => exact ⟨keep a hy u, by rw [← Act.put_comm a v u h2]; exact he⟩
        | panicked c => exact absurd he (hQ _ _ _)
        | outgrown => exact he
      case row row args => exact ⟨h.1, RowsIn.mono h.2 fun u w'' he => ⟨keep a hy u, by rw [← Act.put_comm a v u h2]; exact he⟩⟩
      case round l f tmps assign body =>
        refine ⟨h.1, RoundIn.mono h.2 fun e w'' he => ?_⟩
        cases e with
        | returned u => exact ⟨keep a hy u, by rw [← Act.put_comm a v u h2]; exact he⟩
        | panicked c => exact absurd he (hQ _ _ _)
        | outgrown => exact he
    | halt x w' =>
      cases x <;> simp only [Oper.uponIn] at h ⊢
      case panic u => exact absurd h (hQ _ _ _)
  · rename_i hw
    simp only [hw] at h
    exact ⟨fun _ _ => trivial, keep a hy _, by rw [← Act.put_comm a v undef h2]; exact h.2⟩

def anyHI (n : Nat) (P : Program) (md : Region.Mode) (ops : Array Oper) (Q : Exit → Act → World → Prop) (S : World → Prop) : Nat → Array Bool → Act → World → Prop
  | 0, listed, a, w => S w ∧ Region.ready md ops listed = [] ∧ Q .normal a w
  | fuel + 1, listed, a, w => S w ∧ (Region.ready md ops listed = [] → Q .normal a w) ∧ ∀ i ∈ Region.ready md ops listed, wpOpIn Fence.wide n P ops Q i (anyHI n P md ops Q S fuel (listed.setIfInBounds i true)) a w

theorem any_of_HI : ∀ (fuel : Nat) (listed : Array Bool) (a : Act) (w : World), anyHI n P md ops Q S fuel listed a w → wpAnyIn Fence.wide n P md ops Q fuel listed a w
  | 0, _, _, _, h => ⟨h.2.1, h.2.2⟩
  | fuel + 1, listed, a, w, h => ⟨h.2.1, fun i hi => wpOpIn_mono (fun a w => any_of_HI fuel _ a w) (h.2.2 i hi)⟩

theorem anyHI_S : ∀ {fuel : Nat} {listed : Array Bool} {a : Act} {w : World}, anyHI n P md ops Q S fuel listed a w → S w
  | 0, _, _, _, h => h.1
  | _ + 1, _, _, _, h => h.1

theorem HI_first {i : Nat} {oi : Oper} {v : Value} (hi : ops[i]? = some oi) (hsel : ∀ (j : Nat) (o : Oper) cs b, ops[j]? = some o → o.op ≠ .select cs b) (hQ : ∀ c a w, ¬ Q (.panic c) a w) :
    ∀ (fuel : Nat) (listed : Array Bool) (a : Act) (w : World),
      (∀ j oj, ops[j]? = some oj → j ≠ i → listed.getD j true = false → (∀ e ∈ oj.after, Region.binds md e = true → e.on ≠ i) → oi.apart ops oj = true) →
      i ∈ Region.ready md ops listed → YieldsIf P ops S oi v a → anyHI n P md ops Q S fuel (listed.setIfInBounds i true) (a.put oi.dst v) w → anyHI n P md ops Q S (fuel + 1) listed a w := by
  intro fuel
  induction fuel with
  | zero =>
    intro listed a w _ hr hy H
    refine ⟨H.1, fun h => (by rw [h] at hr; cases hr), fun j hj => ?_⟩
    by_cases hji : j = i
    · subst hji; exact YieldsIf.opIn hi hy H.1 H
    · have := ready_mono hj hji
      rw [H.2.1] at this
      cases this
  | succ fuel ih =>
    intro listed a w hfree hr hy H
    refine ⟨H.1, fun h => (by rw [h] at hr; cases hr), fun j hj => ?_⟩
    by_cases hji : j = i
    · subst hji; exact YieldsIf.opIn hi hy H.1 H
    · have h1 := H.2.2 j (ready_mono hj hji)
      obtain ⟨hjun, oj, hoj, hall⟩ := mem_ready.1 hj
      have hnot : ∀ e ∈ oj.after, Region.binds md e = true → e.on ≠ i := fun e he hb heq => by
        have h1 := hall e he hb
        have h0 := (mem_ready.1 hr).1
        rw [heq] at h1
        rcases Nat.lt_or_ge i listed.size with h' | h'
        · simp [h'] at h0 h1; rw [h0] at h1; cases h1
        · simp [Array.getElem?_eq_none h'] at h1
      have h2 := opIn_put hoj (hfree j oj hoj hji hjun hnot) (fun cs b => hsel i oi cs b hi) (fun cs b => hsel j oj cs b hoj) hQ hy h1
      have hfree' : ∀ k ok, ops[k]? = some ok → k ≠ i → (listed.setIfInBounds j true).getD k true = false →
          (∀ e ∈ ok.after, Region.binds md e = true → e.on ≠ i) → oi.apart ops ok = true := fun k ok hk hki hun hno => by
        refine hfree k ok hk hki ?_ hno
        by_cases hjk : j = k
        · subst hjk; exact hjun
        · rw [getD_set_ne true hjk] at hun; exact hun
      refine wpOpIn_mono (fun a' w' h3 => ih (listed.setIfInBounds j true) a' w' hfree' (ready_mono hr (Ne.symm hji)) h3.1 ?_) h2
      rw [Array.setIfInBounds_comm _ _ hji]
      exact h3.2

theorem HI_take {i : Nat} {oi : Oper} {v : Value} {fuel : Nat} {listed : Array Bool} {a : Act} {w : World} (hi : ops[i]? = some oi) (hs : Region.noSelect ops = true) (hf : Region.free md ops listed i = true)
    (hr : (Region.ready md ops listed).contains i = true) (hQ : ∀ c a w, ¬ Q (.panic c) a w) (hy : YieldsIf P ops S oi v a) (h : anyHI n P md ops Q S fuel (listed.setIfInBounds i true) (a.put oi.dst v) w) :
    anyHI n P md ops Q S (fuel + 1) listed a w :=
  HI_first hi (Region.noSelect_spec hs) hQ fuel listed a w (Region.free_spec hi hf) (by simpa using hr) hy h
end
end Go.Lg
