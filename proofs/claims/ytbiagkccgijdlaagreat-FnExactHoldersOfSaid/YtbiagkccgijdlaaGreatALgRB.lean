/- Iterators: what a function that calls yield gives, one after the other. What the iterator owns and what the rounds own stand apart. -/
import Derived.Test.YtbiagkccgijdlaaGreatALgRA
namespace Go.Lg
variable [GI]
set_option linter.unusedSectionVars false
set_option linter.unusedVariables false
set_option linter.unusedSimpArgs false
open Go.RowKit

/-- An iterator's steps between two rounds: it turns what it owns, and lays new blocks. -/
structure Grown (W : World) (Y : Nat → Prop) (W' : World) (Y' : Nat → Prop) : Prop where
  os : W'.os = W.os
  tape : W'.tape = W.tape
  output : W'.output = W.output
  size : W.heap.size ≤ W'.heap.size
  keep : ∀ b, b < W.heap.size → ¬ Y b → W'.heap[b]? = W.heap[b]?
  own : ∀ b, b < W.heap.size → Y' b → Y b
  lt : ∀ b, Y' b → b < W'.heap.size
  inc : W.drawn ≤ W'.drawn

abbrev Inv3 := World → (Nat → Prop) → (Nat → Prop) → Prop

abbrev Pre := Option (List (List LV))

/-- What the blocks own. -/
def Yo (H : List Blk) (pl : Nat → PV) (b : Nat) : Prop := ∃ (id : Nat) (blk : Blk), H[id]? = some blk ∧ blk.live ∧ b ∈ blk.feet (pl id)
section
variable {J : List (List LV) → Inv3} {Jx : Inv3}

def going (J : List (List LV) → Inv3) (Jx : Inv3) : Pre → Inv3
  | some pre => J pre
  | none => Jx

/-- Behind a round: what the iterator owns and reads is as it was. -/
theorem Sim.round {O O' : Nat → Prop} {B : Nat} {H : List Blk} {w W' : World} {ts : List LV} {a : Act} {pl : Nat → PV} (s : Sim O B ⟨w, H, pl⟩ ⟨ts, H⟩ a w pl) (hF : GI.F W') (hO : ∀ b, O' b → b < W'.heap.size ∧ ¬ Yo H pl b)
    (hl : (pctx O w).Le (pctx O' W')) : Sim O' B ⟨W', H, pl⟩ ⟨ts, H⟩ a W' pl := by
  have hle : (ctx O H pl w).Le (ctx O' H pl W') := ⟨hl.size, fun b hb ho => hl.keep b hb fun k => ho (.inl k), fun b hb o => by
    rcases o with o | o
    · exact .inl (hl.own b hb o)
    · exact .inr o, fun _ _ _ h => h, fun _ _ _ _ h => h⟩
  have hft : ∀ {id : Nat} {blk : Blk} {b : Nat}, H[id]? = some blk → blk.live → b ∈ blk.feet (pl id) → W'.heap[b]? = w.heap[b]? := fun {id blk b} h1 h2 h3 =>
    hl.keep b (owned_lt s.good (.inr ⟨id, blk, h1, h2, h3⟩)) fun o => s.good.apart id blk b h1 h2 h3 o
  refine ⟨⟨Below.refl _ _, ⟨Nat.le_trans s.good.base.1 hl.size, s.good.base.2.1, hF⟩, fun id blk hb => ?_, s.good.inj, s.good.nd, fun b hb => (hO b hb).1, fun _ _ => rfl, fun id blk b h1 h2 h3 o => (hO b o).2 ⟨id, blk, h1, h2, h3⟩⟩, s.defers, s.size, fun t x hx => RT.mono hle _ _ (s.tmps t x hx), Ctx.Le.refl _⟩
  by_cases hlv : blk.live
  · exact BlkOK.mono hle (fun b hf => hft hb hlv hf) (s.good.ok id blk hb)
  · cases blk <;> first | trivial | exact absurd trivial hlv

/-- The state of an iterator's run: so many blocks are its own since the last round. -/
def SY (J : List (List LV) → Inv3) (Jx : Inv3) (p : Pre) (k : Nat) (s : St) (a : Act) (w : World) : Prop :=
  ∃ W0 O B pl, W0.H.length = k ∧ Sim O B W0 s a w pl ∧ going J Jx p W0.w O (Yo W0.H W0.pl)

end

/-! ### Drawn regions, inside the wide fence: reads taken first -/
section
variable {P : Program} {n : Nat} {ops : Array Oper} {md : Region.Mode} {Q : Exit → Act → World → Prop} {S : World → Prop}

end
end Go.Lg

