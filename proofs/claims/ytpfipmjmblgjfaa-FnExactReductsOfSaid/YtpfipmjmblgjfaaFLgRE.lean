/- A range over a function, from the side of the one who ranges: the rounds keep an invariant over the blocks. -/
import Derived.Test.YtpfipmjmblgjfaaFLgRD
namespace Go.Lg
variable [GI]
set_option linter.unusedSectionVars false
set_option linter.unusedVariables false
set_option linter.unusedSimpArgs false
open Go.RowKit

/-- How a later origin stands to the one where the function began. -/
structure Back (X : Nat → Prop) (B : Nat) (W0 : Orig) (X' : Nat → Prop) (W1 : Orig) : Prop where
  sub : ∀ b, X b → X' b
  le : (ctx X W0.H W0.pl W0.w).Le (ctx X W1.H W1.pl W1.w)
  below : Below B W0.w W1.w
  keep : ∀ b, X b → W1.w.heap[b]? = W0.w.heap[b]?
  base : B ≤ W0.w.heap.size ∧ GI.I B W0.w
  lt : ∀ b, X b → b < W0.w.heap.size

section
variable {X X' X'' : Nat → Prop} {B : Nat} {W0 W1 : Orig} {s : St} {a : Act} {w w' : World} {pl : Nat → PV}

theorem Back.start (h : Sim X B W0 s a w pl) (hs : ∀ b, X b → X' b) : Back X B W0 X' ⟨w, s.heap, pl⟩ :=
  ⟨hs, h.le, h.good.below, h.good.keepX, h.good.base, h.good.xlt⟩

theorem Back.fwd (bk : Back X B W0 X' W1) (h : Sim X' B W1 s a w pl) (hs : ∀ b, X b → X'' b) : Back X B W0 X'' ⟨w, s.heap, pl⟩ := by
  refine ⟨hs, bk.le.trans ⟨h.le.size, fun b hb ho => ?_, fun b hb o => ?_, h.le.hs, h.le.hp⟩, bk.below.trans h.good.below, fun b hb => (h.good.keepX b (bk.sub b hb)).trans (bk.keep b hb), bk.base, bk.lt⟩
  · by_cases hx : X' b
    · exact h.good.keepX b hx
    · exact h.le.keep b hb fun o => by
        rcases o with o | o
        · exact hx o
        · exact ho (.inr o)
  · rcases o with o | o
    · exact .inl o
    · rcases h.le.own b hb (.inr o) with o' | o'
      · obtain ⟨id, blk, h1, h2, h3⟩ := o
        exact absurd o' (h.good.apart id blk b h1 h2 h3)
      · exact .inr o'

theorem Back.to (bk : Back X B W0 X' ⟨w, s.heap, pl⟩) (h : Sim X' B ⟨w, s.heap, pl⟩ s a w pl) : Sim X B W0 s a w pl := by
  have hle : (ctx X' s.heap pl w).Le (ctx X s.heap pl w) := ⟨Nat.le_refl _, fun _ _ _ => rfl, fun b _ o => by
    rcases o with o | o
    · exact .inl (bk.sub b o)
    · exact .inr o, fun _ _ _ h => h, fun _ _ _ _ h => h⟩
  exact ⟨⟨bk.below, bk.base, fun id blk hb => BlkOK.mono hle (fun _ _ => rfl) (h.good.ok id blk hb), h.good.inj, h.good.nd, bk.lt, bk.keep, fun id blk b h1 h2 h3 o => h.good.apart id blk b h1 h2 h3 (bk.sub b o)⟩,
    h.defers, h.size, fun t x hx => RT.mono hle _ _ (h.tmps t x hx), bk.le⟩

/-- A block beyond the function's start is turned. -/
theorem Back.put (bk : Back X B W0 X' W1) {l : Nat} (hl : W0.w.heap.size ≤ l) (o : Obj) : Back X B W0 X' ⟨W1.w.putObj l o, W1.H, W1.pl⟩ := by
  have ne : ∀ b, b < W0.w.heap.size → b ≠ l := fun b hb e => by subst e; exact absurd hl (Nat.not_le.2 hb)
  refine ⟨bk.sub, ⟨by have := bk.le.size; simpa [ctx] using this, fun b hb ho => ?_, bk.le.own, bk.le.hs, bk.le.hp⟩, ⟨bk.below.os, bk.below.tape, bk.below.output, by simpa using bk.below.size, fun b hb => ?_⟩, fun b hb => ?_, bk.base, bk.lt⟩
  · exact (World.putObj_heap_other (ne b hb)).trans (bk.le.keep b hb ho)
  · exact (World.putObj_heap_other (ne b (Nat.lt_of_lt_of_le hb bk.base.1))).trans (bk.below.block b hb)
  · exact (World.putObj_heap_other (ne b (bk.lt b hb))).trans (bk.keep b hb)

/-- A foreign block is turned, here and at the origin. -/
theorem Sim.turn (h : Sim X B W1 s a w pl) {l : Nat} (hl : X l) (hBl : B ≤ l) (o : Obj) : Sim X B ⟨W1.w.putObj l o, W1.H, W1.pl⟩ s a (w.putObj l o) pl := by
  have l1 : l < W1.w.heap.size := h.good.xlt l hl
  have l2 : l < w.heap.size := Nat.lt_of_lt_of_le l1 h.good.below.size
  have same : ∀ b, W1.w.heap[b]? = w.heap[b]? → (w.putObj l o).heap[b]? = (W1.w.putObj l o).heap[b]? := fun b e => by
    by_cases hb : b = l
    · subst hb; rw [World.putObj_heap_same l1, World.putObj_heap_same l2]
    · rw [World.putObj_heap_other hb, World.putObj_heap_other hb, e]
  have hle : (ctx X s.heap pl w).Le (ctx X s.heap pl (w.putObj l o)) := ⟨by simp [ctx], fun b hb ho => World.putObj_heap_other fun e => ho (.inl (e ▸ hl)), fun _ _ h => h, fun _ _ _ h => h, fun _ _ _ _ h => h⟩
  refine ⟨⟨⟨h.good.below.os, h.good.below.tape, h.good.below.output, by simpa using h.good.below.size, fun b hb => same b (h.good.below.block b hb).symm⟩, ⟨by simpa using h.good.base.1, GI.keep (w := W1.w) (w' := W1.w.putObj l o) ⟨rfl, rfl, rfl, by simp, fun b (hb : b < B) => World.putObj_heap_other (fun e => absurd hBl (by omega))⟩ h.good.base.2⟩, fun id blk hb => ?_, h.good.inj, h.good.nd, fun b hb => by simpa using h.good.xlt b hb,
    fun b hb => same b (h.good.keepX b hb).symm, h.good.apart⟩, h.defers, h.size, fun t x hx => RT.mono hle _ _ (h.tmps t x hx), ⟨by have := h.le.size; simpa [ctx] using this, fun b hb ho => ?_, fun b hb o => h.le.own b (by simpa [ctx] using hb) o, h.le.hs, h.le.hp⟩⟩
  · by_cases hlv : blk.live
    · exact BlkOK.mono hle (fun b hf => World.putObj_heap_other fun e => h.good.apart id blk b hb hlv hf (e ▸ hl)) (h.good.ok id blk hb)
    · cases blk <;> first | trivial | exact absurd trivial hlv
  · have hb' : b < W1.w.heap.size := by simpa [ctx] using hb
    exact same b (h.le.keep b hb' ho).symm

/-- Blocks just laid are taken for foreign ones. -/
theorem Sim.addX (h : Sim X B W0 s a w pl) (hb : Below w.heap.size w w') {N : Nat → Prop} (hN : ∀ b, N b → w.heap.size ≤ b ∧ b < w'.heap.size) : Sim (fun b => X b ∨ N b) B ⟨w', s.heap, pl⟩ s a w' pl := by
  have hle : (ctx X s.heap pl w).Le (ctx (fun b => X b ∨ N b) s.heap pl w') := ⟨hb.size, fun b hlt _ => hb.block b hlt, fun b hlt o => by
    rcases o with (o | o) | o
    · exact .inl o
    · exact absurd (hN b o).1 (Nat.not_le.2 hlt)
    · exact .inr o, fun _ _ _ h => h, fun _ _ _ _ h => h⟩
  have hft : ∀ {id : Nat} {blk : Blk} {b : Nat}, s.heap[id]? = some blk → blk.live → b ∈ blk.feet (pl id) → b < w.heap.size := fun {id blk b} h1 h2 h3 => owned_lt h.good (.inr ⟨id, blk, h1, h2, h3⟩)
  refine ⟨⟨Below.refl _ _, ⟨Nat.le_trans h.good.base'.1 hb.size, GI.keep (hb.mono h.good.base'.1) h.good.base'.2⟩, fun id blk hk => ?_, h.good.inj, h.good.nd, fun b o => ?_, fun _ _ => rfl, fun id blk b h1 h2 h3 o => ?_⟩, h.defers, h.size, fun t x hx => RT.mono hle _ _ (h.tmps t x hx), Ctx.Le.refl _⟩
  · by_cases hlv : blk.live
    · exact BlkOK.mono hle (fun b hf => hb.block b (hft hk hlv hf)) (h.good.ok id blk hk)
    · cases blk <;> first | trivial | exact absurd trivial hlv
  · rcases o with o | o
    · exact Nat.lt_of_lt_of_le (h.good.xlt b o) (Nat.le_trans h.good.below.size hb.size)
    · exact (hN b o).2
  · rcases o with o | o
    · exact h.good.apart id blk b h1 h2 h3 o
    · exact absurd (hN b o).1 (Nat.not_le.2 (hft h1 h2 h3))

/-- The iterator has gone on: what it owns is foreign here. -/
theorem Sim.regrow {Y Y' : Nat → Prop} {H : List Blk} {ts : List LV} (h : Sim (fun b => X b ∨ Y b) B ⟨w, H, pl⟩ ⟨ts, H⟩ a w pl) (hY : ∀ b, Y b → B ≤ b) (g : Grown w Y w' Y') : Sim (fun b => X b ∨ Y' b) B ⟨w', H, pl⟩ ⟨ts, H⟩ a w' pl := by
  have hle : (ctx (fun b => X b ∨ Y b) H pl w).Le (ctx (fun b => X b ∨ Y' b) H pl w') := ⟨g.size, fun b hlt ho => g.keep b hlt fun hy => ho (.inl (.inr hy)), fun b hlt o => by
    rcases o with (o | o) | o
    · exact .inl (.inl o)
    · exact .inl (.inr (g.own b hlt o))
    · exact .inr o, fun _ _ _ h => h, fun _ _ _ _ h => h⟩
  have hft : ∀ {id : Nat} {blk : Blk} {b : Nat}, H[id]? = some blk → blk.live → b ∈ blk.feet (pl id) → b < w.heap.size := fun {id blk b} h1 h2 h3 => owned_lt h.good (.inr ⟨id, blk, h1, h2, h3⟩)
  refine ⟨⟨Below.refl _ _, ⟨Nat.le_trans h.good.base.1 g.size, GI.keep ⟨g.os, g.tape, g.output, g.size, fun b hb => g.keep b (Nat.lt_of_lt_of_le hb h.good.base.1) fun hy => absurd (hY b hy) (Nat.not_le.2 hb)⟩ h.good.base.2⟩, fun id blk hk => ?_, h.good.inj, h.good.nd, fun b o => ?_, fun _ _ => rfl, fun id blk b h1 h2 h3 o => ?_⟩, h.defers, h.size, fun t x hx => RT.mono hle _ _ (h.tmps t x hx), Ctx.Le.refl _⟩
  · by_cases hlv : blk.live
    · exact BlkOK.mono hle (fun b hf => g.keep b (hft hk hlv hf) fun hy => h.good.apart id blk b hk hlv hf (.inr hy)) (h.good.ok id blk hk)
    · cases blk <;> first | trivial | exact absurd trivial hlv
  · rcases o with o | o
    · exact Nat.lt_of_lt_of_le (h.good.xlt b (.inl o)) g.size
    · exact g.lt b o
  · rcases o with o | o
    · exact h.good.apart id blk b h1 h2 h3 (.inl o)
    · exact h.good.apart id blk b h1 h2 h3 (.inr (g.own b (hft h1 h2 h3) o))
end

/-- Blocks under new numbers, without regard to where the run began: the first ones stay. -/
structure LeN (X : Nat → Prop) (n0 : Nat) (H : List Blk) (pl : Nat → PV) (H' : List Blk) (pl' : Nat → PV) : Prop where
  hs : ∀ i n v, i < n0 → hsOK H pl i n v → hsOK H' pl' i n v
  hp : ∀ i n p v, i < n0 → hpOK H pl i n p v → hpOK H' pl' i n p v
  own : ∀ b, owned X H' pl' b → owned X H pl b
theorem LeN.trans {X : Nat → Prop} {n0 : Nat} {H H1 H2 : List Blk} {pl pl1 pl2 : Nat → PV} (h : LeN X n0 H pl H1 pl1) (k : LeN X n0 H1 pl1 H2 pl2) : LeN X n0 H pl H2 pl2 :=
  ⟨fun i n v hi h0 => k.hs i n v hi (h.hs i n v hi h0), fun i n p v hi h0 => k.hp i n p v hi (h.hp i n p v hi h0), fun b o => h.own b (k.own b o)⟩
theorem LeN.of_sim {X : Nat → Prop} {B : Nat} {H H' : List Blk} {ts' : List LV} {a : Act} {w : World} {pl pl' : Nat → PV} {n0 : Nat} (s : Sim X B ⟨w, H, pl⟩ ⟨ts', H'⟩ a w pl') : LeN X n0 H pl H' pl' :=
  ⟨fun i n v _ h => s.le.hs i n v h, fun i n p v _ h => s.le.hp i n p v h, fun b o => s.le.own b (by
    rcases o with o | o
    · exact s.good.xlt b o
    · exact owned_lt s.good (.inr o)) o⟩

section
variable {X : Nat → Prop} {B : Nat} {W0 : Orig} {H H' : List Blk} {pl : Nat → PV} {w : World} {ts ts' : List LV} {a : Act} {n0 : Nat} {σ : List Kp}

theorem Sim.weakS0 (s : Sim X B W0 ⟨ts, H⟩ a w pl) (h1 : wkR σ ts ts') (h2 : wkHR σ H σ H') (h3 : (nodupN (olds σ) && prefB n0 0 σ) = true) : Sim X B ⟨w, H', kpPl σ pl⟩ ⟨ts', H'⟩ a w (kpPl σ pl) ∧ LeN X n0 H pl H' (kpPl σ pl) := by
  simp only [Bool.and_eq_true] at h3
  have hnd := nodupN_spec h3.1
  have hr := rens_kp (X := X) (pl := pl) (w := w) h2
  have front : ∀ i, i < n0 → σ[i]? = some (.old i) := fun i hi => by simpa using prefB_get h3.2 hi
  have blk : ∀ i, i < n0 → i < H.length → ∃ b, H'[i]? = some (renB (kpM σ) b) ∧ H[i]? = some b ∧ kpPl σ pl i = pl i := fun i hi hl => by
    have hf := front i hi
    have hj : i < H'.length := by rw [wkHR_len _ _ h2]; exact lt_of_get hf
    rcases wkHR_get σ H' i _ h2 (List.getElem?_eq_getElem hj) with ⟨i', b, k2, k3, _, k4⟩ | ⟨_, e, k, k2, _, _⟩
    · rw [hf] at k2
      cases k2
      exact ⟨b, by rw [k4]; exact List.getElem?_eq_getElem hj, k3, by simp [kpPl, hf]⟩
    · rw [hf] at k2; cases k2
  refine ⟨⟨⟨Below.refl _ _, s.good.base', fun j y hy => ?_, fun i j bi bj b hi li hj lj ai aj => ?_, fun i bi hi li => ?_, fun b hb => Nat.lt_of_lt_of_le (s.good.xlt b hb) s.good.below.size, fun _ _ => rfl, fun j y b hy lv hv => ?_⟩,
    s.defers, by rw [s.size]; exact (wkR_len _ _ h1).symm, fun t x hx => ?_, Ctx.Le.refl _⟩, fun i n v hi hs => ?_, fun i n p v hi hs => ?_, fun b o => hr.o b o⟩
  · rcases wkHR_get σ H' j y h2 hy with ⟨i, b, k1, k2, k3, rfl⟩ | ⟨t, e, k, k1, k2, rfl⟩
    · have e : kpPl σ pl j = pl i := by simp [kpPl, k1]
      rw [e]
      exact BlkOK_ren hr k3 (s.good.ok i b k2)
    · have e' : kpPl σ pl j = ⟨.slice none 0 0, []⟩ := by simp [kpPl, k1]
      rw [e']
      exact ⟨[], World.ownsRow_nil w B e k, by cases t <;> simp [RCs, RRcs], by simp, k2⟩
  · obtain ⟨i', b1, k1, k2, rfl, k4⟩ := kp_cases h2 hi ai
    obtain ⟨j', b', m1, m2, rfl, m4⟩ := kp_cases h2 hj aj
    rw [k4, renB_feet] at ai
    rw [m4, renB_feet] at aj
    have := s.good.inj i' j' b1 b' b k2 (renB_live.1 li) m2 (renB_live.1 lj) ai aj
    subst this
    exact olds_inj hnd k1 m1
  · rcases wkHR_get σ H' i bi h2 hi with ⟨i', b, k1, k2, _, rfl⟩ | ⟨t, e, k, k1, _, rfl⟩
    · have e : kpPl σ pl i = pl i' := by simp [kpPl, k1]
      rw [e, renB_feet]
      exact s.good.nd i' b k2 (renB_live.1 li)
    · have e' : kpPl σ pl i = ⟨.slice none 0 0, []⟩ := by simp [kpPl, k1]
      rw [e']
      cases t <;> simp [Blk.feet, feet, hasBk]
  · obtain ⟨i', b1, k1, k2, rfl, k4⟩ := kp_cases h2 hy hv
    rw [k4, renB_feet] at hv
    exact s.good.apart i' b1 b k2 (renB_live.1 lv) hv
  · rcases wkR_get _ _ _ _ h1 hx with rfl | ⟨j, hx', rfl, hj⟩ | ⟨x', hx', hs, rfl⟩
    · trivial
    · have hv := s.tmps t .nil hx'
      simp only [RT, RT1, RC] at hv ⊢
      have hj' : ∃ e k, σ[j]? = some (.nil e k) := by
        unfold nilAt at hj
        split at hj
        · rename_i e k hh; exact ⟨e, k, hh⟩
        · cases hj
      obtain ⟨e, k, hjk⟩ := hj'
      refine ⟨_, hv, by rw [wkHR_len _ _ h2]; exact lt_of_get hjk, ⟨none, 0, 0, rfl⟩, fun e' xs hx0 hr0 hn0 => by simp [kpPl, hjk]⟩
    · exact RT_ren hr hs (s.tmps t x' hx')
  · obtain ⟨b, k1, k2, k3⟩ := blk i hi hs.1
    exact hsOK_move (μ := fun i => i) hs ⟨b, k1, by rw [renB_id]; exact k2⟩ k3
  · obtain ⟨b, k1, k2, k3⟩ := blk i hi hs.1
    exact hpOK_move (μ := fun i => i) hs ⟨b, k1, by rw [renB_id]; exact k2⟩ k3

theorem Sim.weakSR (s : Sim X B W0 ⟨ts, H⟩ a w pl) (h : Go.Lg.weakR n0 σ ts H ts' H') : ∃ pl', Sim X B ⟨w, H', pl'⟩ ⟨ts', H'⟩ a w pl' ∧ LeN X n0 H pl H' pl' := by
  obtain ⟨h1, h2, h3⟩ := h
  obtain ⟨H1, pl1, h4, s1⟩ := closeAll_sound σ H' H _ pl h2 s.self
  obtain ⟨s2, l2⟩ := s1.weakS0 h1 h4 h3
  exact ⟨_, s2, (LeN.of_sim s1).trans l2⟩

theorem Sim.weakSelf (s : Sim X B W0 ⟨ts, H⟩ a w pl) (h : Weak n0 ts H ts' H') : ∃ pl', Sim X B ⟨w, H', pl'⟩ ⟨ts', H'⟩ a w pl' ∧ LeN X n0 H pl H' pl' := by
  cases h with
  | inl h =>
    obtain ⟨h1, h2, h3, h4⟩ := h
    have hr := rens_shrink (X := X) (pl := pl) (w := w) h2
    refine ⟨pl, ⟨⟨Below.refl _ _, s.good.base', fun id blk hb => ?_, fun i j bi bj b hi li hj lj => s.good.inj i j bi bj b (wkH_get _ _ _ _ _ h2 hi) li (wkH_get _ _ _ _ _ h2 hj) lj, fun i bi hi => s.good.nd i bi (wkH_get _ _ _ _ _ h2 hi),
      fun b hb => Nat.lt_of_lt_of_le (s.good.xlt b hb) s.good.below.size, fun _ _ => rfl, fun id blk b hb => s.good.apart id blk b (wkH_get _ _ _ _ _ h2 hb)⟩,
      s.defers, by rw [s.size]; exact (wk_len _ _ h1).symm, fun t x hx => ?_, Ctx.Le.refl _⟩, fun i n v hi h => ?_, fun i n p v hi h => ?_, fun b o => hr.o b o⟩
    · have hb0 := wkH_get _ _ _ _ _ h2 hb
      have := BlkOK_ren hr (List.all_eq_true.1 h4 blk (List.mem_of_getElem? hb)) (s.good.ok id blk hb0)
      rwa [renB_id] at this
    · rcases wk_get _ _ _ _ h1 hx with rfl | hx'
      · trivial
      · have := RT_ren hr (scs_get _ _ _ h3 hx) (s.tmps t x hx')
        rwa [renL_id] at this
    · have hi' : i < H'.length := Nat.lt_of_lt_of_le hi (wkH_len _ _ _ h2).2
      exact hr.hs i n v (by simpa [below] using hi') h
    · have hi' : i < H'.length := Nat.lt_of_lt_of_le hi (wkH_len _ _ _ h2).2
      exact hr.hp i n p v (by simpa [below] using hi') h
  | inr h =>
    obtain ⟨σ, h⟩ := h
    exact s.weakSR h
  | nl ns σ h =>
    obtain ⟨ts1, H1, pl1, h1, s1⟩ := nilK_sound ns ts H _ pl h s.self
    obtain ⟨pl2, s2, l2⟩ := s1.weakSR h1
    exact ⟨pl2, s2, (LeN.of_sim s1).trans l2⟩

theorem Back.weak {X' : Nat → Prop} {pl' : Nat → PV} (bk : Back X B W0 X' ⟨w, H, pl⟩) (l : LeN X W0.H.length H pl H' pl') : Back X B W0 X' ⟨w, H', pl'⟩ :=
  ⟨bk.sub, ⟨bk.le.size, bk.le.keep, fun b hb o => bk.le.own b hb (l.own b o), fun id n v h => l.hs id n v h.1 (bk.le.hs id n v h), fun id n p v h => l.hp id n p v h.1 (bk.le.hp id n p v h)⟩, bk.below, bk.keep, bk.base, bk.lt⟩
end

/-- Between two rounds. -/
structure JC (X : Nat → Prop) (B : Nat) (W0 : Orig) (X2 : Nat → Prop) (tsW : List LV) (a : Act) (l D S : Nat) (r : Loop) (W : World) (O Y : Nat → Prop) (H : List Blk) (pl : Nat → PV) : Prop where
  sim : Sim (fun b => X2 b ∨ Y b) B ⟨W, H, pl⟩ ⟨tsW, H⟩ a W pl
  bk : Back X B W0 (fun b => X2 b ∨ Y b) ⟨W, H, pl⟩
  rcd : W.heap[l]? = some (.loop r)
  dfr : W.heap[D]? = some (.deferred (some []))
  eqO : O = owned X2 H pl
  dis : ∀ b, O b → ¬ Y b
  far : ∀ b, Y b → S ≤ b
  now : S ≤ W.heap.size

theorem JC.lt {X : Nat → Prop} {B : Nat} {W0 : Orig} {X2 : Nat → Prop} {tsW : List LV} {a : Act} {l D S : Nat} {r : Loop} {W : World} {O Y : Nat → Prop} {H : List Blk} {pl : Nat → PV} (h : JC X B W0 X2 tsW a l D S r W O Y H pl) (b : Nat) (hb : O b) :
    b < W.heap.size ∧ ¬ Y b := by
  refine ⟨?_, h.dis b hb⟩
  have hb' := hb
  rw [h.eqO] at hb'
  rcases hb' with o | o
  · exact owned_lt h.sim.good (.inl (.inl o))
  · exact owned_lt h.sim.good (.inr o)

theorem JC.grow {X : Nat → Prop} {B : Nat} {W0 : Orig} {X2 : Nat → Prop} {tsW : List LV} {a : Act} {l D S : Nat} {r : Loop} {W : World} {O Y : Nat → Prop} {H : List Blk} {pl : Nat → PV} (h : JC X B W0 X2 tsW a l D S r W O Y H pl) (h1 : W0.w.heap.size ≤ S) (hl : X2 l) (hD : X2 D)
    {W' : World} {Y' : Nat → Prop} (g : Grown W Y W' Y') : JC X B W0 X2 tsW a l D S r W' O Y' H pl := by
  have ny : ∀ b, b < W0.w.heap.size → ¬ Y b := fun b hb hy => absurd (h.far b hy) (Nat.not_le.2 (Nat.lt_of_lt_of_le hb h1))
  have lt0 : ∀ b, b < W0.w.heap.size → b < W.heap.size := fun b hb => Nat.lt_of_lt_of_le hb (Nat.le_trans h1 h.now)
  have lx : ∀ b, X2 b → W'.heap[b]? = W.heap[b]? := fun b hb => g.keep b (h.sim.good.xlt b (.inl hb)) fun hy => h.dis b (by rw [h.eqO]; exact .inl hb) hy
  refine ⟨h.sim.regrow (fun b hy => Nat.le_trans h.bk.base.1 (Nat.le_trans h1 (h.far b hy))) g, ⟨fun b hb => ?_, ⟨Nat.le_trans h.bk.le.size g.size, fun b hb ho => (g.keep b (lt0 b hb) (ny b hb)).trans (h.bk.le.keep b hb ho), h.bk.le.own, h.bk.le.hs, h.bk.le.hp⟩,
    ⟨g.os.trans h.bk.below.os, g.tape.trans h.bk.below.tape, g.output.trans h.bk.below.output, Nat.le_trans h.bk.below.size g.size, fun b hb => ?_⟩, fun b hb => ?_, h.bk.base, h.bk.lt⟩, (lx l hl).trans h.rcd, (lx D hD).trans h.dfr, h.eqO, fun b hb hy => ?_, fun b hy => ?_, Nat.le_trans h.now g.size⟩
  · rcases h.bk.sub b hb with o | o
    · exact .inl o
    · exact absurd o (ny b (h.bk.lt b hb))
  · have hb0 := Nat.lt_of_lt_of_le hb h.bk.base.1
    exact (g.keep b (lt0 b hb0) (ny b hb0)).trans (h.bk.below.block b hb)
  · have hb0 := h.bk.lt b hb
    exact (g.keep b (lt0 b hb0) (ny b hb0)).trans (h.bk.keep b hb)
  · have := (h.lt b hb).1
    exact h.dis b hb (g.own b this hy)
  · rcases Nat.lt_or_ge b W.heap.size with hlt | hge
    · exact h.far b (g.own b hlt hy)
    · exact Nat.le_trans h.now hge

def setPs : List Nat → List LV → List LV → List LV
  | p :: ps, x :: xs, ts => setPs ps xs (ts.set p x)
  | _, _, ts => ts

theorem Sim.setPs {X : Nat → Prop} {B : Nat} {W0 : Orig} {H : List Blk} {w : World} {pl : Nat → PV} : ∀ (ps : List Nat) (xs : List LV) (vs : List Value) (ts : List LV) (a : Act), Sim X B W0 ⟨ts, H⟩ a w pl → vs.length = xs.length →
    (∀ (i : Nat) y v, xs[i]? = some y → vs[i]? = some v → RT (ctx X H pl w) y v) → Sim X B W0 ⟨Go.Lg.setPs ps xs ts, H⟩ { a with tmps := (ps.zip vs).foldl (fun t (p, v) => t.setIfInBounds p v) a.tmps } w pl
  | [], xs, vs, ts, a, s, _, _ => s
  | p :: ps, [], [], ts, a, s, _, _ => s
  | p :: ps, [], v :: vs, ts, a, s, h, _ => by simp at h
  | p :: ps, x :: xs, [], ts, a, s, h, _ => by simp at h
  | p :: ps, x :: xs, v :: vs, ts, a, s, h, hr => by
    have s1 := s.put (d := p) (hr 0 x v rfl rfl)
    exact Sim.setPs ps xs vs (ts.set p x) (a.put (some p) v) s1 (by simpa using h) fun i y u hy hu => hr (i + 1) y u (by simpa using hy) (by simpa using hu)

def exCode : Ex → Option Code
  | .normal => none
  | .exit id => some (.exit id)
  | .ret => some .ret

abbrev CR := Bool → Nat → List LV → List Blk → (Bool → Nat → Ex → List LV → List Blk → Prop) → Prop
def rK (K : Bool → Nat → Ex → List LV → List Blk → Prop) (fr : Bool) (k : Nat) (e : Ex) (ts : List LV) (H : List Blk) : Prop := K fr k e ts H

/-- What a closure has captured, frozen for good: the boxes are given up. -/
def frzCaps : List LV → List Blk → (List LV → List Blk → Prop) → Prop
  | [], H, K => K [] H
  | x :: cs, H, K => match x with
    | .ref c => frzCaps cs H fun cs' H' => K (.ref c :: cs') H'
    | .hp id _ path => match path with
      | [] => match H[id]? with
        | some (.box c) => match isPure c with
          | true => setHK H id .dead fun H1 => frzCaps cs H1 fun cs' H' => K (.ref c :: cs') H'
          | false => False
        | _ => False
      | _ => False
    | _ => False

theorem Sim.freeze {X : Nat → Prop} {B : Nat} {W0 : Orig} {ts : List LV} {H : List Blk} {a : Act} {w : World} {pl : Nat → PV} (h : Sim X B W0 ⟨ts, H⟩ a w pl) {id : Nat} {c : LV} (hb : H[id]? = some (.box c)) (hp : isPure c = true) :
    Sim X B W0 ⟨ts, H.set id .dead⟩ a w pl ∧ (∀ b, owned X (H.set id .dead) pl b → owned X H pl b) ∧ ∀ v, hpOK H pl id 0 [] v ∨ (∃ n, hpOK H pl id n [] v) → RT (pctx (owned X (H.set id .dead) pl) w) (.ref c) v := by
  have hlt : id < H.length := lt_of_get hb
  have get : ∀ (j : Nat) (blk : Blk), (H.set id .dead)[j]? = some blk → blk.live → j ≠ id ∧ H[j]? = some blk := fun j blk hj hl => by
    by_cases e : j = id
    · subst e; rw [List.getElem?_set_self hlt] at hj; cases hj; exact hl.elim
    · rw [List.getElem?_set_ne (Ne.symm e)] at hj; exact ⟨e, hj⟩
  have sub : ∀ b, owned X (H.set id .dead) pl b → owned X H pl b := fun b o => by
    rcases o with o | ⟨j, blk, h1, h2, h3⟩
    · exact .inl o
    · exact .inr ⟨j, blk, (get j blk h1 h2).2, h2, h3⟩
  have hle : (ctx X H pl w).Le (ctx X (H.set id .dead) pl w) := by
    refine ⟨Nat.le_refl _, fun _ _ _ => rfl, fun b _ o => sub b o, fun j n v h => ?_, fun j n p v h => ?_⟩
    · refine ⟨by simpa using h.1, h.2.1, fun b xs hj hr => ?_⟩
      by_cases e : j = id
      · subst e; rw [List.getElem?_set_self hlt] at hj; cases hj; exact hr.elim
      · rw [List.getElem?_set_ne (Ne.symm e)] at hj; exact h.2.2 b xs hj hr
    · refine ⟨by simpa using h.1, h.2.1, fun c o hj => ?_, fun b xs o hj hr => ?_, fun s hj q => ?_⟩
      all_goals by_cases e : j = id
      · subst e; rw [List.getElem?_set_self hlt] at hj; cases hj
      · rw [List.getElem?_set_ne (Ne.symm e)] at hj; exact h.2.2.1 c o hj
      · subst e; rw [List.getElem?_set_self hlt] at hj; cases hj; exact hr.elim
      · rw [List.getElem?_set_ne (Ne.symm e)] at hj; exact h.2.2.2.1 b xs o hj hr
      · subst e; rw [List.getElem?_set_self hlt] at hj; cases hj; exact q.elim
      · rw [List.getElem?_set_ne (Ne.symm e)] at hj; exact h.2.2.2.2 s hj q
  refine ⟨⟨⟨h.good.below, h.good.base, fun j blk hj => ?_, fun i j bi bj b hi li hj lj fi fj => ?_, fun i bi hi li => ?_, h.good.xlt, h.good.keepX, fun j blk b hj lj fj => ?_⟩, h.defers, h.size, fun t x hx => RT.mono hle _ _ (h.tmps t x hx), h.le.trans hle⟩, sub, fun v hv => ?_⟩
  · by_cases hl : blk.live
    · obtain ⟨ne, hj'⟩ := get j blk hj hl
      exact BlkOK.mono hle (fun _ _ => rfl) (h.good.ok j blk hj')
    · cases blk <;> first | trivial | exact absurd trivial hl
  · exact h.good.inj i j bi bj b (get i bi hi li).2 li (get j bj hj lj).2 lj fi fj
  · exact h.good.nd i bi (get i bi hi li).2 li
  · exact h.good.apart j blk b (get j blk hj lj).2 lj fj
  · have hv' : v = .pointer (some ⟨bk (pl id).v, 0, none⟩) := by
      rcases hv with hv | ⟨n, hv⟩ <;> exact hv.2.2.1 c 0 hb rfl
    obtain ⟨b, es, ty, h1, h2, h3, h4⟩ := h.good.ok id _ hb
    have hbk : bk (pl id).v = b := by rw [h1]; rfl
    have hft : b ∈ (Blk.box c).feet (pl id) := by
      refine Blk.feet_head (mem_feet.2 ⟨by rw [h1]; rfl, hbk⟩)
    have hno : ¬ owned X (H.set id .dead) pl b := fun o => by
      rcases o with o | ⟨j, blk, q1, q2, q3⟩
      · exact h.good.apart id _ b hb trivial hft o
      · obtain ⟨ne, q1'⟩ := get j blk q1 q2
        exact ne (h.good.inj j id blk _ b q1' q2 hb trivial q3 hft)
    rw [hv', hbk]
    simp only [RT, RT1, RC]
    have hcell : w.heap[b]? = some (.cells es.toArray ty (0, 0)) := h3
    refine ⟨⟨b, 0, none⟩, es, rfl, (Array.getElem?_eq_some_iff.1 hcell).1, hno, ?_, ⟨rfl, fun j v hjv => ?_⟩⟩
    · have := RC_pure h4 hp
      have hpl : (ctx X H pl w).pure.Le (pctx (owned X (H.set id .dead) pl) w).pure := ⟨Nat.le_refl _, fun _ _ _ => rfl, fun b _ o => sub b o, fun _ _ _ h => (h : False).elim, fun _ _ _ _ h => (h : False).elim⟩
      exact RC.mono hpl _ _ this
    · show w.cell? _ = some v
      unfold World.cell?
      simp only
      rw [hcell]
      simp [hjv]

theorem frzCaps_sound {X : Nat → Prop} {B : Nat} {W0 : Orig} {ts : List LV} {a : Act} {w : World} {pl : Nat → PV} : ∀ (cs : List LV) (H : List Blk) (vs : List Value) (K : List LV → List Blk → Prop), Sim X B W0 ⟨ts, H⟩ a w pl → vs.length = cs.length →
    (∀ (i : Nat) x v, cs[i]? = some x → vs[i]? = some v → RT (ctx X H pl w) x v) → frzCaps cs H K →
    ∃ cs' H', K cs' H' ∧ Sim X B W0 ⟨ts, H'⟩ a w pl ∧ cs'.length = cs.length ∧ (∀ b, owned X H' pl b → owned X H pl b) ∧ ∀ (i : Nat) x v, cs'[i]? = some x → vs[i]? = some v → RT (pctx (owned X H' pl) w) x v
  | [], H, vs, K, s, _, _, h => ⟨[], H, h, s, rfl, fun _ h => h, fun i x v hx => by simp at hx⟩
  | x :: cs, H, [], K, s, hl, _, h => by simp at hl
  | x :: cs, H, v0 :: vs, K, s, hl, hr, h => by
    unfold frzCaps at h
    have h0 := hr 0 x v0 rfl rfl
    have le0 : ∀ {H1 H2 : List Blk}, (∀ b, owned X H2 pl b → owned X H1 pl b) → (pctx (owned X H1 pl) w).Le (pctx (owned X H2 pl) w) := fun hs => ⟨Nat.le_refl _, fun _ _ _ => rfl, fun b _ o => hs b o, fun _ _ _ h => h.elim, fun _ _ _ _ h => h.elim⟩
    split at h
    · rename_i c
      obtain ⟨cs', H', k1, k2, k3, k4, k5⟩ := frzCaps_sound cs H vs _ s (by simpa using hl) (fun i x v hx hv => hr (i + 1) x v (by simpa using hx) (by simpa using hv)) h
      refine ⟨_, H', k1, k2, by simp [k3], k4, fun i x v hx hv => ?_⟩
      cases i with
      | zero =>
        simp only [List.getElem?_cons_zero, Option.some.injEq] at hx hv
        subst hx; subst hv
        refine RT.mono (le0 k4) _ _ ?_
        simp only [RT, RT1, RC] at h0 ⊢
        exact h0
      | succ i => exact k5 i x v (by simpa using hx) (by simpa using hv)
    · rename_i id n path
      split at h
      · split at h
        · rename_i c hb
          split at h
          · rename_i hp
            rw [setHK_eq] at h
            obtain ⟨f1, f2, f3⟩ := s.freeze hb hp
            have hle : (ctx X H pl w).Le (ctx X (H.set id .dead) pl w) := by
              refine ⟨Nat.le_refl _, fun _ _ _ => rfl, fun b _ o => f2 b o, fun j n v h => ?_, fun j n p v h => ?_⟩
              · refine ⟨by simpa using h.1, h.2.1, fun b xs hj hr => ?_⟩
                by_cases e : j = id
                · subst e; rw [List.getElem?_set_self (lt_of_get hb)] at hj; cases hj; exact hr.elim
                · rw [List.getElem?_set_ne (Ne.symm e)] at hj; exact h.2.2 b xs hj hr
              · refine ⟨by simpa using h.1, h.2.1, fun c o hj => ?_, fun b xs o hj hr => ?_, fun s hj q => ?_⟩
                all_goals by_cases e : j = id
                · subst e; rw [List.getElem?_set_self (lt_of_get hb)] at hj; cases hj
                · rw [List.getElem?_set_ne (Ne.symm e)] at hj; exact h.2.2.1 c o hj
                · subst e; rw [List.getElem?_set_self (lt_of_get hb)] at hj; cases hj; exact hr.elim
                · rw [List.getElem?_set_ne (Ne.symm e)] at hj; exact h.2.2.2.1 b xs o hj hr
                · subst e; rw [List.getElem?_set_self (lt_of_get hb)] at hj; cases hj; exact q.elim
                · rw [List.getElem?_set_ne (Ne.symm e)] at hj; exact h.2.2.2.2 s hj q
            obtain ⟨cs', H', k1, k2, k3, k4, k5⟩ := frzCaps_sound cs _ vs _ f1 (by simpa using hl) (fun i x v hx hv => RT.mono hle _ _ (hr (i + 1) x v (by simpa using hx) (by simpa using hv))) h
            refine ⟨_, H', k1, k2, by simp [k3], fun b o => f2 b (k4 b o), fun i x v hx hv => ?_⟩
            cases i with
            | zero =>
              simp only [List.getElem?_cons_zero, Option.some.injEq] at hx hv
              subst hx; subst hv
              refine RT.mono (le0 k4) _ _ (f3 _ (.inr ⟨n, ?_⟩))
              simp only [RT, RT1, RC] at h0
              obtain ⟨u, e, h0⟩ := h0
              simp at e
              subst e
              exact h0
            | succ i => exact k5 i x v (by simpa using hx) (by simpa using hv)
          · exact h.elim
        · exact h.elim
      · exact h.elim
    · exact h.elim

/-- The statement: what the iterator gives, and what the rounds keep. -/
@[irreducible] def rangeR (E : Env) (f : Operand) (ps : Array Tmp) (assign body : Code) (k : Nat) (ts : List LV) (H : List Blk) (K : Bool → Nat → Ex → List LV → List Blk → Prop) : Prop :=
  (noDefC assign && noDefC body) = true ∧ ∃ tsW HV, Weak k ts H tsW HV ∧ match ev tsW f with
  | .clos g caps => caps.all cap1 = true ∧ frzCaps caps HV fun caps' HW => ∃ (xs : List (List LV)) (I : List (List LV) → List Blk → Prop), GSpec E.P g caps' xs ∧ I [] HW ∧ (∀ pre H, I pre H → H.length = HW.length) ∧ (∀ x ∈ xs, x.length = ps.size) ∧
      (∀ pre x post H, xs = pre ++ x :: post → I pre H → codeW (E.nk HW.length) assign (setPs ps.toList x tsW) H fun e ts' H' => match e with
        | .normal => codeW (E.nk HW.length) body ts' H' fun e ts'' H'' => ∃ H3, Weak k tsW H'' tsW H3 ∧ match e with
          | .normal => I (pre ++ [x]) H3
          | .exit id => K false H3.length (.exit id) tsW H3
          | .ret => K false H3.length .ret tsW H3
        | _ => False) ∧ ∀ H, I xs H → K false H.length .normal tsW H
  | _ => False

end Go.Lg
