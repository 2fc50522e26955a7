/- Long functions, told statement by statement: between two statements the state is told anew, so that both ways of a test meet again. -/
import Derived.Test.YtgkjafmmekjjlaaGreatCLgN
namespace Go.Lg
variable [GI]
set_option linter.unusedSectionVars false
set_option linter.unusedVariables false
set_option linter.unusedSimpArgs false
open Go.RowKit
def cutK (n0 : Nat) (ts' : List LV) (H' : List Blk) (K : Ex → List LV → List Blk → Prop) : Ex → List LV → List Blk → Prop := fun e t h => match e with
  | .normal => Weak n0 t h ts' H'
  | .exit id => K (.exit id) t h
  | .ret => K .ret t h
def codeC (E : Env) (K : Ex → List LV → List Blk → Prop) : List Bool → Code → List LV → List Blk → Prop
  | [], c, ts, H => codeW E c ts H K
  | b :: l, .seq x y, ts, H => match b with
    | true => ∃ ts' H', codeW E x ts H (cutK E.n0 ts' H' K) ∧ codeC E K l y ts' H'
    | false => codeW E x ts H fun e t h => match e with
      | .normal => codeC E K l y t h
      | .exit id => K (.exit id) t h
      | .ret => K .ret t h
  | _ :: _, _, _, _ => False
theorem codeC_sound {E : Env} (hE : EnvOK E) {X : Nat → Prop} {B : Nat} {W0 : Orig} (hn : E.n0 = W0.H.length) : ∀ (l : List Bool) (c : Code) (K : Ex → List LV → List Blk → Prop) (Q : Exit → Act → World → Prop),
    (∀ e ts H a w pl, K e ts H → Sim X B W0 ⟨ts, H⟩ a w pl → Q e.toExit a w) → ∀ (ts : List LV) (H : List Blk) (a : Act) (w : World) (pl : Nat → PV),
    codeC E K l c ts H → Sim X B W0 ⟨ts, H⟩ a w pl → c.wp E.P Q a w
  | [], c, K, Q, hK, ts, H, a, w, pl, h, s => codeW_sound hE hn c K Q hK ts H a w pl h s
  | true :: l, .seq x y, K, Q, hK, ts, H, a, w, pl, h, s => by
    simp only [codeC] at h
    obtain ⟨ts', H', h1, h2⟩ := h
    refine wp_seq (codeW_sound hE hn x _ _ (fun e t h a w pl k s => ?_) ts H a w pl h1 s)
    cases e with
    | normal =>
      obtain ⟨pl', s'⟩ := s.weakAny k hn
      exact codeC_sound hE hn l y K Q hK ts' H' a w pl' h2 s'
    | exit id => exact hK (.exit id) t h a w pl k s
    | ret => exact hK .ret t h a w pl k s
  | false :: l, .seq x y, K, Q, hK, ts, H, a, w, pl, h, s => by
    simp only [codeC] at h
    refine wp_seq (codeW_sound hE hn x _ _ (fun e t h a w pl k s => ?_) ts H a w pl h s)
    cases e with
    | normal => exact codeC_sound hE hn l y K Q hK t h a w pl k s
    | exit id => exact hK (.exit id) t h a w pl k s
    | ret => exact hK .ret t h a w pl k s
  | _ :: _, .skip, _, _, _, _, _, _, _, _, h, _ => by simp [codeC] at h
  | _ :: _, .region _ _ _, _, _, _, _, _, _, _, _, h, _ => by simp [codeC] at h
  | _ :: _, .cond _ _ _, _, _, _, _, _, _, _, _, h, _ => by simp [codeC] at h
  | _ :: _, .block _ _, _, _, _, _, _, _, _, _, h, _ => by simp [codeC] at h
  | _ :: _, .loop _, _, _, _, _, _, _, _, _, h, _ => by simp [codeC] at h
  | _ :: _, .exit _, _, _, _, _, _, _, _, _, h, _ => by simp [codeC] at h
  | _ :: _, .ret, _, _, _, _, _, _, _, _, h, _ => by simp [codeC] at h
  | _ :: _, .scope _, _, _, _, _, _, _, _, _, h, _ => by simp [codeC] at h
  | _ :: _, .label _, _, _, _, _, _, _, _, _, h, _ => by simp [codeC] at h
  | _ :: _, .goto _, _, _, _, _, _, _, _, _, h, _ => by simp [codeC] at h
theorem FSpec_of_cuts {E : Env} (l : List Bool) (hE : EnvOK E) {f : FuncId} {fn : Func} {c : Code} (hf : E.P.funcs[f]? = some fn) (hb : fn.body = some c)
    (hc : ∀ (vs : Array Value) (w : World), (callFunc f vs).run E.P w = .ok (.enter f vs) w) (args : List LV) (r : LV)
    (h : codeC E (fun e ts H => match e with | .exit _ => False | _ => retW E fn.results.toList ts H r) l c (pad args fn.ntmps) []) (hn : E.n0 = 0 := by rfl) : FSpec E.P f args r := by
  unfold FSpec
  refine ⟨hc, fun w O vs hI hO hsz hargs => ?_⟩
  refine calls_of_wp hf hb (codeC_sound hE (X := O) (B := w.heap.size) (W0 := ⟨w, [], fun _ => ⟨.nilIface, []⟩⟩) hn l c _ _ ?_ _ _ _ _ (fun _ => ⟨.nilIface, []⟩) h ?_)
  · intro e ts H a w' pl k s
    cases e with
    | exit id => exact k.elim
    | normal =>
      obtain ⟨v, h1, h2⟩ := retW_sound hE s k
      exact ⟨s.defers, v, h1, v, rfl, s.good.below, h2⟩
    | ret =>
      obtain ⟨v, h1, h2⟩ := retW_sound hE s k
      exact ⟨s.defers, v, h1, v, rfl, s.good.below, h2⟩
  · have hle : (pctx O w).Le (ctx O [] (fun _ => ⟨.nilIface, []⟩) w) :=
      ⟨Nat.le_refl _, fun _ _ _ => rfl, fun b _ k => by rcases k with k | ⟨id, blk, k, _⟩; exact k; simp at k, fun _ _ _ k => k.elim, fun _ _ _ _ k => k.elim⟩
    exact ⟨⟨Below.refl _ _, ⟨Nat.le_refl _, hI⟩, fun id blk hb => by simp at hb, fun i j bi bj b hi => by simp at hi, fun i bi hi => by simp at hi, hO, fun _ _ => rfl, fun id blk b hb => by simp at hb⟩, rfl, by simp [pad, hsz],
      pad_RT hsz fun i x v hx hv => RT.mono hle _ _ (hargs i x v hx hv), Ctx.Le.refl _⟩
end Go.Lg
