/- Rules for the walk: an iterator's loops; a range over a function, its state told by how many have come. -/
import Derived.Test.YtpfipmjmblgjfaaFLgRG
namespace Go.Lg
variable [GI]
set_option linter.unusedSectionVars false
set_option linter.unusedVariables false
set_option linter.unusedSimpArgs false
open Go.RowKit

theorem loopY_rule {E : Env} {l : Nat} {xs : List (List LV)} {c : Code} {p : Pre} {k : Nat} {ts : List LV} {H : List Blk} {K : Pre → Nat → Ex → List LV → List Blk → Prop} {α : Type}
    (sl : α → List (Nat × LV)) (hp : α → List Blk) (pp : α → Pre) (μ : α → Nat) (Inv : α → Prop) (x0 : α) (h0 : Inv x0) (hp0 : p = pp x0) (k0 : Nat) (hk : ∀ x, (hp x).length = k0) (hw : Weak k ts H (mask (wrOf c) (sl x0) 0 ts) (hp x0))
    (step : ∀ x, Inv x → forceL (mask (wrOf c) (sl x) 0 ts) fun ts1 => codeY E l xs c (pp x) k0 ts1 (hp x) fun p' k' e ts' H' => match e with
      | .normal => k' = k0 ∧ ∃ y, Inv y ∧ μ y < μ x ∧ p' = pp y ∧ Weak k0 ts' H' (mask (wrOf c) (sl y) 0 ts) (hp y)
      | .exit id => yK K p' k' (.exit id) ts' H'
      | .ret => yK K p' k' .ret ts' H') : loopY c (codeY E l xs c) p k ts H K := by
  unfold loopY
  refine ⟨k0, fun n p' ts1 H1 => ∃ x, Inv x ∧ μ x = n ∧ p' = pp x ∧ ts1 = mask (wrOf c) (sl x) 0 ts ∧ H1 = hp x, ⟨μ x0, _, _, hw, x0, h0, rfl, hp0, rfl, rfl⟩, ?_, ?_⟩
  · rintro n p' ts1 H1 ⟨x, _, _, _, _, rfl⟩; exact hk x
  · rintro n p' ts1 H1 ⟨x, hx, rfl, rfl, rfl, rfl⟩
    have := step x hx
    rw [forceL_eq] at this
    have key : (fun (p' : Pre) (k' : Nat) (e : Ex) (ts' : List LV) (H' : List Blk) => match e with
      | .normal => k' = k0 ∧ ∃ y, Inv y ∧ μ y < μ x ∧ p' = pp y ∧ Weak k0 ts' H' (mask (wrOf c) (sl y) 0 ts) (hp y)
      | .exit id => yK K p' k' (.exit id) ts' H'
      | .ret => yK K p' k' .ret ts' H') = (fun p' k' e ts' H' => match e with
      | .normal => k' = k0 ∧ ∃ m ts'' H'', m < μ x ∧ Weak k0 ts' H' ts'' H'' ∧ ∃ x, Inv x ∧ μ x = m ∧ p' = pp x ∧ ts'' = mask (wrOf c) (sl x) 0 ts ∧ H'' = hp x
      | .exit id => K p' k' (.exit id) ts' H'
      | .ret => K p' k' .ret ts' H') := by
      funext p' k' e ts' H'
      cases e with
      | normal =>
        refine propext ⟨?_, ?_⟩
        · rintro ⟨h1, y, h2, h3, h4, h5⟩; exact ⟨h1, μ y, _, _, h3, h5, y, h2, rfl, h4, rfl, rfl⟩
        · rintro ⟨h1, m, ts'', H'', h3, h5, y, h2, rfl, h4, rfl, rfl⟩; exact ⟨h1, y, h2, h3, h4, h5⟩
      | exit id => rfl
      | ret => rfl
    rw [key] at this
    exact this

theorem rangeR_rule {E : Env} {f : Operand} {ps : Array Tmp} {assign body : Code} {k : Nat} {ts : List LV} {H : List Blk} {K : Bool → Nat → Ex → List LV → List Blk → Prop} {α : Type} (enc : α → List LV) (ys : List α) (hp : Nat → List Blk) (Inv : Nat → Prop)
    (tsW : List LV) (HV : List Blk) (hw : Weak k ts H tsW HV) {g : FuncId} {caps caps' : List LV} (he : ev tsW f = .clos g caps) (hc : caps.all cap1 = true) (hl : ∀ K : List LV → List Blk → Prop, K caps' (hp 0) → frzCaps caps HV K) (hg : GSpec E.P g caps' (ys.map enc))
    (hnd : (noDefC assign && noDefC body) = true) (h0 : Inv 0) (m : Nat) (hlen : ∀ j, (hp j).length = m) (hps : ∀ y ∈ ys, (enc y).length = ps.size)
    (round : ∀ j y, ys[j]? = some y → Inv j → codeW (E.nk m) assign (setPs ps.toList (enc y) tsW) (hp j) fun e ts' H' => match e with
      | .normal => codeW (E.nk m) body ts' H' fun e ts'' H'' => ∃ H3, Weak k tsW H'' tsW H3 ∧ match e with
        | .normal => H3 = hp (j + 1) ∧ Inv (j + 1)
        | .exit id => K false H3.length (.exit id) tsW H3
        | .ret => K false H3.length .ret tsW H3
      | _ => False)
    (done : Inv ys.length → K false m .normal tsW (hp ys.length)) : rangeR E f ps assign body k ts H K := by
  unfold rangeR
  refine ⟨hnd, tsW, HV, hw, ?_⟩
  rw [he]
  refine ⟨hc, ?_⟩
  refine hl _ ⟨ys.map enc, fun pre H => (pre = (ys.take pre.length).map enc ∧ pre.length ≤ ys.length) ∧ H = hp pre.length ∧ Inv pre.length, hg, ⟨⟨by simp, by simp⟩, rfl, h0⟩, ?_, ?_, ?_, ?_⟩
  · rintro pre H ⟨_, rfl, _⟩; rw [hlen, hlen]
  · intro x hx
    obtain ⟨y, hy, rfl⟩ := List.mem_map.1 hx
    exact hps y hy
  · rintro pre x post H hx ⟨⟨hp1, hj⟩, rfl, hi⟩
    have hxj : (ys.map enc)[pre.length]? = some x := by
      rw [hx, List.getElem?_append_right (Nat.le_refl _)]; simp
    rw [List.getElem?_map] at hxj
    cases hy : ys[pre.length]? with
    | none => rw [hy] at hxj; cases hxj
    | some y =>
      rw [hy] at hxj
      cases hxj
      have r := round pre.length y hy hi
      have hlt : pre.length < ys.length := (List.getElem?_eq_some_iff.1 hy).1
      have hyy : ys[pre.length] = y := (List.getElem?_eq_some_iff.1 hy).2
      have hpre : pre ++ [enc y] = (ys.take (pre ++ [enc y]).length).map enc ∧ (pre ++ [enc y]).length ≤ ys.length := by
        refine ⟨?_, by simp; omega⟩
        rw [List.length_append, List.length_singleton, List.take_succ_eq_append_getElem hlt, List.map_append, hyy, ← hp1]
        rfl
      have key : ∀ H3, (((pre ++ [enc y] = (ys.take (pre ++ [enc y]).length).map enc ∧ (pre ++ [enc y]).length ≤ ys.length) ∧ H3 = hp (pre ++ [enc y]).length ∧ Inv (pre ++ [enc y]).length)) = (H3 = hp (pre.length + 1) ∧ Inv (pre.length + 1)) := fun H3 => by
        rw [show (pre ++ [enc y]).length = pre.length + 1 by simp] at hpre ⊢
        exact propext ⟨fun h => h.2, fun h => ⟨hpre, h⟩⟩
      rw [hlen 0]
      refine cast (congrArg (fun z => codeW (E.nk m) assign (setPs ps.toList (enc y) tsW) (hp pre.length) z) (funext fun e => funext fun ts' => funext fun H' => ?_)) r
      cases e with
      | exit id => rfl
      | ret => rfl
      | normal =>
        refine congrArg (fun z => codeW (E.nk m) body ts' H' z) (funext fun e => funext fun ts'' => funext fun H'' => ?_)
        cases e with
        | exit id => rfl
        | ret => rfl
        | normal =>
          simp only [key]
  · rintro H ⟨_, rfl, hi⟩
    rw [List.length_map] at hi ⊢
    rw [hlen]
    exact done hi

/-- The same where the temporaries stay as they are. -/
theorem rangeR_ruleS {E : Env} {f : Operand} {ps : Array Tmp} {assign body : Code} {k : Nat} {ts : List LV} {H : List Blk} {K : Bool → Nat → Ex → List LV → List Blk → Prop} {α : Type} (enc : α → List LV) (ys : List α) (hp : Nat → List Blk) (Inv : Nat → Prop)
    (HV : List Blk) (hw : Weak k ts H ts HV) {g : FuncId} {caps caps' : List LV} (he : ev ts f = .clos g caps) (hc : caps.all cap1 = true) (hl : ∀ K : List LV → List Blk → Prop, K caps' (hp 0) → frzCaps caps HV K) (hg : GSpec E.P g caps' (ys.map enc))
    (hnd : (noDefC assign && noDefC body) = true) (h0 : Inv 0) (m : Nat) (hlen : ∀ j, (hp j).length = m) (hps : ∀ y ∈ ys, (enc y).length = ps.size)
    (round : ∀ j y, ys[j]? = some y → Inv j → codeW (E.nk m) assign (setPs ps.toList (enc y) ts) (hp j) fun e ts' H' => match e with
      | .normal => codeW (E.nk m) body ts' H' fun e ts'' H'' => ∃ H3, Weak k ts H'' ts H3 ∧ match e with
        | .normal => H3 = hp (j + 1) ∧ Inv (j + 1)
        | .exit id => K false H3.length (.exit id) ts H3
        | .ret => K false H3.length .ret ts H3
      | _ => False)
    (done : Inv ys.length → K false m .normal ts (hp ys.length)) : rangeR E f ps assign body k ts H K :=
  rangeR_rule enc ys hp Inv ts HV hw he hc hl hg hnd h0 m hlen hps round done
end Go.Lg
