/- A range over a function, from the side of the one who ranges: the rounds keep an invariant over the blocks. -/
import Derived.Test.YtbiagkccgijdlaaGreatALgRD
namespace Go.Lg
variable [GI]
set_option linter.unusedSectionVars false
set_option linter.unusedVariables false
set_option linter.unusedSimpArgs false
open Go.RowKit

/-- How a later origin stands to the one where the function began. -/
structure Back (X : Nat → Prop) (B : Nat) (W0 : Orig) (X' : Nat → Prop) (W1 : Orig) : Prop where
  sub : ∀ b, X b → X' b
  le : (ctx X W0.H W0.pl W0.w).Le (ctx X W1.H W1.pl W1.w)
  below : Below B W0.w W1.w
  keep : ∀ b, X b → W1.w.heap[b]? = W0.w.heap[b]?
  base : B ≤ W0.w.heap.size ∧ GI.I B W0.w
  lt : ∀ b, X b → b < W0.w.heap.size

section
variable {X X' X'' : Nat → Prop} {B : Nat} {W0 W1 : Orig} {s : St} {a : Act} {w w' : World} {pl : Nat → PV}

theorem Back.start (h : Sim X B W0 s a w pl) (hs : ∀ b, X b → X' b) : Back X B W0 X' ⟨w, s.heap, pl⟩ :=
  ⟨hs, h.le, h.good.below, h.good.keepX, h.good.base, h.good.xlt⟩

theorem Back.to (bk : Back X B W0 X' ⟨w, s.heap, pl⟩) (h : Sim X' B ⟨w, s.heap, pl⟩ s a w pl) : Sim X B W0 s a w pl := by
  have hle : (ctx X' s.heap pl w).Le (ctx X s.heap pl w) := ⟨Nat.le_refl _, fun _ _ _ => rfl, fun b _ o => by
    rcases o with o | o
    · exact .inl (bk.sub b o)
    · exact .inr o, fun _ _ _ h => h, fun _ _ _ _ h => h⟩
  exact ⟨⟨bk.below, bk.base, fun id blk hb => BlkOK.mono hle (fun _ _ => rfl) (h.good.ok id blk hb), h.good.inj, h.good.nd, bk.lt, bk.keep, fun id blk b h1 h2 h3 o => h.good.apart id blk b h1 h2 h3 (bk.sub b o)⟩,
    h.defers, h.size, fun t x hx => RT.mono hle _ _ (h.tmps t x hx), bk.le⟩

/-- A block beyond the function's start is turned. -/
theorem Back.put (bk : Back X B W0 X' W1) {l : Nat} (hl : W0.w.heap.size ≤ l) (o : Obj) : Back X B W0 X' ⟨W1.w.putObj l o, W1.H, W1.pl⟩ := by
  have ne : ∀ b, b < W0.w.heap.size → b ≠ l := fun b hb e => by subst e; exact absurd hl (Nat.not_le.2 hb)
  refine ⟨bk.sub, ⟨by have := bk.le.size; simpa [ctx] using this, fun b hb ho => ?_, bk.le.own, bk.le.hs, bk.le.hp⟩, ⟨bk.below.os, bk.below.tape, bk.below.output, by simpa using bk.below.size, fun b hb => ?_, bk.below.inc⟩, fun b hb => ?_, bk.base, bk.lt⟩
  · exact (World.putObj_heap_other (ne b hb)).trans (bk.le.keep b hb ho)
  · exact (World.putObj_heap_other (ne b (Nat.lt_of_lt_of_le hb bk.base.1))).trans (bk.below.block b hb)
  · exact (World.putObj_heap_other (ne b (bk.lt b hb))).trans (bk.keep b hb)

/-- The iterator has gone on: what it owns is foreign here. -/
theorem Sim.regrow {Y Y' : Nat → Prop} {H : List Blk} {ts : List LV} (h : Sim (fun b => X b ∨ Y b) B ⟨w, H, pl⟩ ⟨ts, H⟩ a w pl) (hY : ∀ b, Y b → B ≤ b) (g : Grown w Y w' Y') : Sim (fun b => X b ∨ Y' b) B ⟨w', H, pl⟩ ⟨ts, H⟩ a w' pl := by
  have hle : (ctx (fun b => X b ∨ Y b) H pl w).Le (ctx (fun b => X b ∨ Y' b) H pl w') := ⟨g.size, fun b hlt ho => g.keep b hlt fun hy => ho (.inl (.inr hy)), fun b hlt o => by
    rcases o with (o | o) | o
    · exact .inl (.inl o)
    · exact .inl (.inr (g.own b hlt o))
    · exact .inr o, fun _ _ _ h => h, fun _ _ _ _ h => h⟩
  have hft : ∀ {id : Nat} {blk : Blk} {b : Nat}, H[id]? = some blk → blk.live → b ∈ blk.feet (pl id) → b < w.heap.size := fun {id blk b} h1 h2 h3 => owned_lt h.good (.inr ⟨id, blk, h1, h2, h3⟩)
  refine ⟨⟨Below.refl _ _, ⟨Nat.le_trans h.good.base.1 g.size, GI.keep ⟨g.os, g.tape, g.output, g.size, fun b hb => g.keep b (Nat.lt_of_lt_of_le hb h.good.base.1) fun hy => absurd (hY b hy) (Nat.not_le.2 hb), g.inc⟩ h.good.base.2⟩, fun id blk hk => ?_, h.good.inj, h.good.nd, fun b o => ?_, fun _ _ => rfl, fun id blk b h1 h2 h3 o => ?_⟩, h.defers, h.size, fun t x hx => RT.mono hle _ _ (h.tmps t x hx), Ctx.Le.refl _⟩
  · by_cases hlv : blk.live
    · exact BlkOK.mono hle (fun b hf => g.keep b (hft hk hlv hf) fun hy => h.good.apart id blk b hk hlv hf (.inr hy)) (h.good.ok id blk hk)
    · cases blk <;> first | trivial | exact absurd trivial hlv
  · rcases o with o | o
    · exact Nat.lt_of_lt_of_le (h.good.xlt b (.inl o)) g.size
    · exact g.lt b o
  · rcases o with o | o
    · exact h.good.apart id blk b h1 h2 h3 (.inl o)
    · exact h.good.apart id blk b h1 h2 h3 (.inr (g.own b (hft h1 h2 h3) o))
end

/-- Blocks under new numbers, without regard to where the run began: the first ones stay. -/
structure LeN (X : Nat → Prop) (n0 : Nat) (H : List Blk) (pl : Nat → PV) (H' : List Blk) (pl' : Nat → PV) : Prop where
  hs : ∀ i n v, i < n0 → hsOK H pl i n v → hsOK H' pl' i n v
  hp : ∀ i n p v, i < n0 → hpOK H pl i n p v → hpOK H' pl' i n p v
  own : ∀ b, owned X H' pl' b → owned X H pl b
theorem LeN.trans {X : Nat → Prop} {n0 : Nat} {H H1 H2 : List Blk} {pl pl1 pl2 : Nat → PV} (h : LeN X n0 H pl H1 pl1) (k : LeN X n0 H1 pl1 H2 pl2) : LeN X n0 H pl H2 pl2 :=
  ⟨fun i n v hi h0 => k.hs i n v hi (h.hs i n v hi h0), fun i n p v hi h0 => k.hp i n p v hi (h.hp i n p v hi h0), fun b o => h.own b (k.own b o)⟩
section
variable {X : Nat → Prop} {B : Nat} {W0 : Orig} {H H' : List Blk} {pl : Nat → PV} {w : World} {ts ts' : List LV} {a : Act} {n0 : Nat} {σ : List Kp}

theorem Back.weak {X' : Nat → Prop} {pl' : Nat → PV} (bk : Back X B W0 X' ⟨w, H, pl⟩) (l : LeN X W0.H.length H pl H' pl') : Back X B W0 X' ⟨w, H', pl'⟩ :=
  ⟨bk.sub, ⟨bk.le.size, bk.le.keep, fun b hb o => bk.le.own b hb (l.own b o), fun id n v h => l.hs id n v h.1 (bk.le.hs id n v h), fun id n p v h => l.hp id n p v h.1 (bk.le.hp id n p v h)⟩, bk.below, bk.keep, bk.base, bk.lt⟩
end

/-- Between two rounds. -/
structure JC (X : Nat → Prop) (B : Nat) (W0 : Orig) (X2 : Nat → Prop) (tsW : List LV) (a : Act) (l D S : Nat) (r : Loop) (W : World) (O Y : Nat → Prop) (H : List Blk) (pl : Nat → PV) : Prop where
  sim : Sim (fun b => X2 b ∨ Y b) B ⟨W, H, pl⟩ ⟨tsW, H⟩ a W pl
  bk : Back X B W0 (fun b => X2 b ∨ Y b) ⟨W, H, pl⟩
  rcd : W.heap[l]? = some (.loop r)
  dfr : W.heap[D]? = some (.deferred (some []))
  eqO : O = owned X2 H pl
  dis : ∀ b, O b → ¬ Y b
  far : ∀ b, Y b → S ≤ b
  now : S ≤ W.heap.size

theorem JC.lt {X : Nat → Prop} {B : Nat} {W0 : Orig} {X2 : Nat → Prop} {tsW : List LV} {a : Act} {l D S : Nat} {r : Loop} {W : World} {O Y : Nat → Prop} {H : List Blk} {pl : Nat → PV} (h : JC X B W0 X2 tsW a l D S r W O Y H pl) (b : Nat) (hb : O b) :
    b < W.heap.size ∧ ¬ Y b := by
  refine ⟨?_, h.dis b hb⟩
  have hb' := hb
  rw [h.eqO] at hb'
  rcases hb' with o | o
  · exact owned_lt h.sim.good (.inl (.inl o))
  · exact owned_lt h.sim.good (.inr o)

theorem JC.grow {X : Nat → Prop} {B : Nat} {W0 : Orig} {X2 : Nat → Prop} {tsW : List LV} {a : Act} {l D S : Nat} {r : Loop} {W : World} {O Y : Nat → Prop} {H : List Blk} {pl : Nat → PV} (h : JC X B W0 X2 tsW a l D S r W O Y H pl) (h1 : W0.w.heap.size ≤ S) (hl : X2 l) (hD : X2 D)
    {W' : World} {Y' : Nat → Prop} (g : Grown W Y W' Y') : JC X B W0 X2 tsW a l D S r W' O Y' H pl := by
  have ny : ∀ b, b < W0.w.heap.size → ¬ Y b := fun b hb hy => absurd (h.far b hy) (Nat.not_le.2 (Nat.lt_of_lt_of_le hb h1))
  have lt0 : ∀ b, b < W0.w.heap.size → b < W.heap.size := fun b hb => Nat.lt_of_lt_of_le hb (Nat.le_trans h1 h.now)
  have lx : ∀ b, X2 b → W'.heap[b]? = W.heap[b]? := fun b hb => g.keep b (h.sim.good.xlt b (.inl hb)) fun hy => h.dis b (by rw [h.eqO]; exact .inl hb) hy
  refine ⟨h.sim.regrow (fun b hy => Nat.le_trans h.bk.base.1 (Nat.le_trans h1 (h.far b hy))) g, ⟨fun b hb => ?_, ⟨Nat.le_trans h.bk.le.size g.size, fun b hb ho => (g.keep b (lt0 b hb) (ny b hb)).trans (h.bk.le.keep b hb ho), h.bk.le.own, h.bk.le.hs, h.bk.le.hp⟩,
    ⟨g.os.trans h.bk.below.os, g.tape.trans h.bk.below.tape, g.output.trans h.bk.below.output, Nat.le_trans h.bk.below.size g.size, fun b hb => ?_, Nat.le_trans h.bk.below.inc g.inc⟩, fun b hb => ?_, h.bk.base, h.bk.lt⟩, (lx l hl).trans h.rcd, (lx D hD).trans h.dfr, h.eqO, fun b hb hy => ?_, fun b hy => ?_, Nat.le_trans h.now g.size⟩
  · rcases h.bk.sub b hb with o | o
    · exact .inl o
    · exact absurd o (ny b (h.bk.lt b hb))
  · have hb0 := Nat.lt_of_lt_of_le hb h.bk.base.1
    exact (g.keep b (lt0 b hb0) (ny b hb0)).trans (h.bk.below.block b hb)
  · have hb0 := h.bk.lt b hb
    exact (g.keep b (lt0 b hb0) (ny b hb0)).trans (h.bk.keep b hb)
  · have := (h.lt b hb).1
    exact h.dis b hb (g.own b this hy)
  · rcases Nat.lt_or_ge b W.heap.size with hlt | hge
    · exact h.far b (g.own b hlt hy)
    · exact Nat.le_trans h.now hge

end Go.Lg

