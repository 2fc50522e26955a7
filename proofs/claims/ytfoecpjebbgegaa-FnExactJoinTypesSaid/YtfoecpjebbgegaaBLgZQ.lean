/- Regions whose order is open, with one operation behind all the others: it may write what the region has not laid. -/
import Derived.Test.YtfoecpjebbgegaaBLgZP
namespace Go.Lg
set_option linter.unusedVariables false
set_option linter.unusedSimpArgs false
open Go.RowKit

/-- The last operation stands behind all the others, and each stands behind earlier ones alone. -/
def lastB (all : Array Oper) : Bool := (match all[all.size - 1]? with
  | some o => o.dst.isNone && o.guard.isNone && (List.range (all.size - 1)).all (fun j => o.after.any fun e => Region.binds .any e && Nat.beq e.on j)
  | none => false) && (List.range all.size).all fun i => match all[i]? with | some o => o.after.all fun e => Nat.blt e.on i | none => true
def idle (o : Oper) : Oper := { o with op := .assign (.const (.bool true)) }
/-- The same, the last one idle. -/
def swapL (all : Array Oper) : Array Oper := match all[all.size - 1]? with
  | some o => all.setIfInBounds (all.size - 1) (idle o)
  | none => all

section
variable {all : Array Oper}
theorem swap_size : (swapL all).size = all.size := by unfold swapL; split <;> simp
theorem swap_ne {i : Nat} (h : i ≠ all.size - 1) : (swapL all)[i]? = all[i]? := by
  unfold swapL
  split
  · rw [Array.getElem?_setIfInBounds_ne (Ne.symm h)]
  · rfl
theorem swap_at {o : Oper} (h : all[all.size - 1]? = some o) : (swapL all)[all.size - 1]? = some (idle o) := by
  unfold swapL
  rw [h]
  have : all.size - 1 < all.size := by
    rcases Nat.lt_or_ge (all.size - 1) all.size with h' | h'
    · exact h'
    · rw [Array.getElem?_eq_none h'] at h; cases h
  simp [this]
theorem swap_after (i : Nat) : (swapL all)[i]?.map (·.after) = all[i]?.map (·.after) := by
  by_cases h : i = all.size - 1
  · subst h
    cases ho : all[all.size - 1]? with
    | none => unfold swapL; rw [ho]; simp [ho]
    | some o => rw [swap_at ho]; rfl
  · rw [swap_ne h]
theorem swap_dst (i : Nat) : (swapL all)[i]?.bind (·.dst) = all[i]?.bind (·.dst) := by
  by_cases h : i = all.size - 1
  · subst h
    cases ho : all[all.size - 1]? with
    | none => unfold swapL; rw [ho]; simp [ho]
    | some o => rw [swap_at ho]; rfl
  · rw [swap_ne h]
theorem swap_ready (listed : Array Bool) : Region.ready .any (swapL all) listed = Region.ready .any all listed := by
  unfold Region.ready
  rw [swap_size]
  refine List.filter_congr fun i _ => ?_
  have := swap_after (all := all) i
  have e : ∀ x : Option Oper, (x.map fun o => o.after.all fun e => !Region.binds .any e || listed.getD e.on false) = (x.map (·.after)).map fun s => s.all fun e => !Region.binds .any e || listed.getD e.on false := fun x => by cases x <;> rfl
  rw [e, e, this]
theorem swap_yielded (t : Array Value) (j : Nat) : yielded (swapL all) t j = yielded all t j := by
  unfold yielded
  rw [swap_dst]

theorem ready_some (hb : lastB all = true) {listed : Array Bool} {k : Nat} (hk : listed.getD k true = false) (hs : listed.size = all.size) : Region.ready .any all listed ≠ [] := by
  simp only [lastB, Bool.and_eq_true, List.all_eq_true, List.mem_range] at hb
  have hex : ∃ k, listed.getD k true = false := ⟨k, hk⟩
  obtain ⟨k, hk, hmin⟩ : ∃ k, listed.getD k true = false ∧ ∀ j, j < k → listed.getD j true = true := by
    clear hk
    obtain ⟨k, hk⟩ := hex
    induction k using Nat.strongRecOn with
    | _ k ih =>
      by_cases h : ∃ j, j < k ∧ listed.getD j true = false
      · obtain ⟨j, h1, h2⟩ := h; exact ih j h1 h2
      · refine ⟨k, hk, fun j hj => ?_⟩
        cases hx : listed.getD j true with
        | true => rfl
        | false => exact absurd ⟨j, hj, hx⟩ h
  have hlt : k < all.size := by
    rw [← hs]
    rcases Nat.lt_or_ge k listed.size with h | h
    · exact h
    · rw [Array.getD_eq_getD_getElem?, Array.getElem?_eq_none h] at hk; simp at hk
  intro hr
  have hm : k ∈ Region.ready .any all listed := by
    unfold Region.ready
    rw [List.mem_filter]
    refine ⟨List.mem_range.2 hlt, ?_⟩
    rw [hk]
    have h2 := hb.2 k hlt
    have ho : all[k]? = some all[k] := Array.getElem?_eq_getElem hlt
    rw [ho] at h2 ⊢
    simp only [Array.all_eq_true] at h2
    simp only [Bool.not_false, Bool.true_and, Option.map_some, Option.getD_some]
    rw [Array.all_eq_true]
    intro i hi
    have h3 := h2 i hi
    have hlt2 : (all[k].after[i]).on < k := by simpa [Nat.blt_eq] using h3
    have h4 := hmin _ hlt2
    have h5 : (all[k].after[i]).on < listed.size := by rw [hs]; omega
    rw [Array.getD_eq_getD_getElem?, Array.getElem?_eq_getElem h5] at h4 ⊢
    simp at h4 ⊢
    right; exact h4
  rw [hr] at hm
  cases hm

theorem wp_Q {P : Program} {o : Oper} {a : Act} {w : World} {K : Act → World → Prop} {Q Q' : Exit → Act → World → Prop} (h : o.wp P a w K Q') (hp : ∀ c a w, ¬ Q' (.panic c) a w) (ho : ∀ a w, ¬ Q' .outgrown a w) : o.wp P a w K Q := by
  unfold Oper.wp at *
  generalize (execOp a.eval o).run P w = r at *
  cases r with
  | ok n w' =>
    cases n with
    | enter f args =>
      rw [Oper.upon_enter] at *
      refine h.mono fun e w'' h' => ?_
      cases e with
      | returned v => exact h'
      | panicked c => exact absurd h' (hp _ _ _)
      | outgrown => obtain ⟨x, y, h'⟩ := h'; exact absurd h' (ho _ _)
    | _ => exact h
  | halt x w' => cases x <;> first | exact h | exact absurd h (hp _ _ _)

theorem swap_sound {P : Program} (hb : lastB all = true) {Q : Exit → Act → World → Prop} {R : Act → World → Prop}
    (hR : ∀ a w, R a w → wpOp P all Q (all.size - 1) (fun a w => Q .normal a w) a w) :
    ∀ (fuel : Nat) (listed : Array Bool) (a : Act) (w : World), listed.size = all.size → listed.getD (all.size - 1) true = false →
      wpAny P .any (swapL all) (fun e a w => e = .normal ∧ R a w) fuel listed a w → wpAny P .any all Q fuel listed a w
  | 0, listed, a, w, hs, hm, h => by
    have h1 := h.1
    rw [swap_ready] at h1
    exact absurd h1 (ready_some hb hm hs)
  | fuel + 1, listed, a, w, hs, hm, h => by
    refine ⟨fun h1 => absurd h1 (ready_some hb hm hs), fun i hi => ?_⟩
    have h2 := h.2 i (by rw [swap_ready]; exact hi)
    by_cases him : i = all.size - 1
    · subst him
      have hb' := hb
      simp only [lastB, Bool.and_eq_true, List.all_eq_true, List.mem_range] at hb
      have hb1 := hb.1
      cases ho : all[all.size - 1]? with
      | none => rw [ho] at hb1; cases hb1
      | some o =>
        rw [ho] at hb1
        simp only [Bool.and_eq_true, List.all_eq_true, List.mem_range, Option.isNone_iff_eq_none] at hb1
        obtain ⟨⟨hd, hg⟩, haf⟩ := hb1
        have hlt : all.size - 1 < all.size := by
          rcases Nat.lt_or_ge (all.size - 1) all.size with h' | h'
          · exact h'
          · rw [Array.getElem?_eq_none h'] at ho; cases ho
        have hlist : ∀ j, j < all.size - 1 → listed.getD j false = true := fun j hj => by
          have := haf j hj
          rw [Array.any_eq_true] at this
          obtain ⟨k, hk, hk2⟩ := this
          simp only [Bool.and_eq_true] at hk2
          have hj' := Nat.eq_of_beq_eq_true hk2.2
          unfold Region.ready at hi
          rw [List.mem_filter] at hi
          have hi2 := hi.2
          rw [ho] at hi2
          simp only [Option.map_some, Option.getD_some, Bool.and_eq_true, Array.all_eq_true] at hi2
          have h3 := hi2.2 k hk
          rw [hk2.1, hj'] at h3
          simpa using h3
        have hr : Region.ready .any all (listed.setIfInBounds (all.size - 1) true) = [] := by
          unfold Region.ready
          rw [List.filter_eq_nil_iff]
          intro j hj
          have hjlt := List.mem_range.1 hj
          have : (listed.setIfInBounds (all.size - 1) true).getD j true = true := by
            by_cases hje : j = all.size - 1
            · subst hje
              rw [Array.getD_eq_getD_getElem?]
              simp [hs, hlt]
            · have h6 := hlist j (by omega)
              rw [Array.getD_eq_getD_getElem?] at h6 ⊢
              rw [Array.getElem?_setIfInBounds_ne (Ne.symm hje)]
              have h7 : j < listed.size := by omega
              rw [Array.getElem?_eq_getElem h7] at h6 ⊢
              simpa using h6
          rw [this]
          simp
        have hRaw : R a w := by
          unfold wpOp at h2
          rw [swap_at ho] at h2
          simp only at h2
          rw [if_pos (by simp [Region.wanted, idle, hg])] at h2
          rcases h2 with h2 | h2
          · have e : (execOp a.eval (idle o)).run P w = .ok (.value (a.eval (.const (.bool true)))) w := by simp [execOp, idle]
            unfold Oper.wp at h2
            rw [e, Oper.upon_value] at h2
            have hput : a.put (idle o).dst (a.eval (.const (.bool true))) = a := by
              have : (idle o).dst = none := hd
              rw [this]; rfl
            rw [hput] at h2
            have hr' : Region.ready .any (swapL all) (listed.setIfInBounds (all.size - 1) true) = [] := by rw [swap_ready]; exact hr
            cases fuel with
            | zero => exact h2.2.2
            | succ n => exact (h2.1 hr').2
          · obtain ⟨_, x, y, hx⟩ := h2
            cases hx.1
        refine wpOp_mono (fun a' w' hq => ?_) (hR a w hRaw)
        cases fuel with
        | zero => exact ⟨hr, hq⟩
        | succ n => exact ⟨fun _ => hq, fun j hj => by rw [hr] at hj; cases hj⟩
    · have IH : ∀ a w, wpAny P .any (swapL all) (fun e a w => e = .normal ∧ R a w) fuel (listed.setIfInBounds i true) a w → wpAny P .any all Q fuel (listed.setIfInBounds i true) a w := fun a w h' =>
        swap_sound hb hR fuel _ a w (by simp [hs]) (by
          rw [Array.getD_eq_getD_getElem?] at hm ⊢
          rw [Array.getElem?_setIfInBounds_ne him]; exact hm) h'
      unfold wpOp at h2 ⊢
      rw [swap_ne him] at h2
      cases ho : all[i]? with
      | none => rw [ho] at h2; exact IH _ _ h2
      | some o =>
        rw [ho] at h2
        simp only at h2 ⊢
        have hw : Region.wanted o (yielded (swapL all) a.tmps) = Region.wanted o (yielded all a.tmps) := by
          have : yielded (swapL all) a.tmps = yielded all a.tmps := funext fun j => swap_yielded _ j
          rw [this]
        rw [hw] at h2
        split at h2
        · rename_i hwt
          rw [if_pos hwt]
          rcases h2 with h2 | h2
          · exact .inl (wp_Q (Oper.wp_mono (fun a w => IH a w) h2) (fun c a w h' => by cases h'.1) (fun a w h' => by cases h'.1))
          · obtain ⟨_, x, y, hx⟩ := h2
            cases hx.1
        · rename_i hwt
          rw [if_neg hwt]
          exact IH _ _ h2
end
/-- What stands at the last operation. -/
def lastW (E : Env) (all : Array Oper) (ts : List LV) (H : List Blk) (K : List LV → List Blk → Prop) : Prop := match all[all.size - 1]? with
  | some o => opsStepF E all o opsNil ts H K
  | none => False
section
variable {E : Env} {X : Nat → Prop} {B : Nat} {W0 : Orig} {ts : List LV} {H : List Blk} {a : Act} {pl : Nat → PV} {w : World}
theorem pr_last (hE : EnvOK E) {all : Array Oper} {l : List Nat} {sc : Scr} (hb : lastB all = true) (hd : prB E.hf (swapL all) l sc = true) {Wk : List LV → List Blk → List LV → List Blk → Prop}
    (hW : ∀ ts H ts' H' a w pl, Wk ts H ts' H' → Sim X B W0 ⟨ts, H⟩ a w pl → ∃ pl', Sim X B W0 ⟨ts', H'⟩ a w pl') {K : List LV → List Blk → Prop} {Q : Exit → Act → World → Prop}
    (hK : ∀ ts H a w pl, K ts H → Sim X B W0 ⟨ts, H⟩ a w pl → Q .normal a w) {id : Nat}
    (h : takesW E (swapL all) l ts H fun ts1 H1 => ∃ tsC HC, scrA E (swapL all) sc ts1 H1 (fun ts' H' => Wk ts' H' tsC HC) ∧ lastW E all tsC HC K) (s : Sim X B W0 ⟨ts, H⟩ a w pl) : (Code.region id all true).wp E.P Q a w := by
  have s := s.grow (w' := { w with drawn := w.drawn + 1 }) ⟨rfl, rfl, rfl, Nat.le_refl _, fun _ _ => rfl⟩
  have hpos : all.size - 1 < all.size := by
    unfold lastB at hb
    rcases Nat.lt_or_ge (all.size - 1) all.size with h' | h'
    · exact h'
    · rw [Array.getElem?_eq_none h'] at hb; simp at hb
  refine wp_region_any hE.m ?_
  refine swap_sound hb (R := fun a w => ∃ ts' H' pl', lastW E all ts' H' K ∧ Sim X B W0 ⟨ts', H'⟩ a w pl') ?_ all.size _ a _ (by simp) (by rw [Array.getD_eq_getD_getElem?]; simp [hpos]) ?_
  · rintro a w ⟨ts', H', pl', hl, s'⟩
    unfold lastW at hl
    unfold wpOp
    simp only [lastB, Bool.and_eq_true] at hb
    have hb1 := hb.1
    cases ho : all[all.size - 1]? with
    | none => rw [ho] at hl; exact hl.elim
    | some o =>
      rw [ho] at hl hb1
      simp only [Bool.and_eq_true, Option.isNone_iff_eq_none] at hb1
      have hg := hb1.1.2
      simp only at hl ⊢
      rw [if_pos (by simp [Region.wanted, hg])]
      unfold opsStepF at hl
      rw [hg] at hl
      refine .inl (wp_of_OpRes (opF_sound hE s' hl) fun x H'' a' w' pl'' hk hs => ?_)
      rw [putK_eq] at hk
      exact hK _ _ _ _ _ hk hs
  · rw [show all.size = (swapL all).size from swap_size.symm]
    generalize swapL all = A at hd h ⊢
    simp only [prB, Bool.and_eq_true, Nat.ble_eq] at hd
    obtain ⟨⟨⟨h1, h2⟩, h3⟩, h4⟩ := hd
    refine wpAny_of_held (S := fun w' => Below ({ w with drawn := w.drawn + 1 } : World).heap.size { w with drawn := w.drawn + 1 } w') _ _ _ _ ?_
    obtain ⟨F, hF⟩ : ∃ F, A.size = F + l.length := ⟨A.size - l.length, by omega⟩
    rw [show wpAnyH E.P .any A (fun e a w => e = Exit.normal ∧ ∃ ts' H' pl', lastW E all ts' H' K ∧ Sim X B W0 ⟨ts', H'⟩ a w pl') (fun w' => Below ({ w with drawn := w.drawn + 1 } : World).heap.size { w with drawn := w.drawn + 1 } w') A.size
      = wpAnyH E.P .any A (fun e a w => e = Exit.normal ∧ ∃ ts' H' pl', lastW E all ts' H' K ∧ Sim X B W0 ⟨ts', H'⟩ a w pl') (fun w' => Below ({ w with drawn := w.drawn + 1 } : World).heap.size { w with drawn := w.drawn + 1 } w') (F + l.length) by rw [hF]]
    refine takes_sound hE h1 (fun c a w h => by cases h.1) (fuel := F) l _ ts H a pl h2 h s fun ts1 H1 a1 pl1 hk s1 => ?_
    obtain ⟨tsC, HC, k1, k2⟩ := hk
    refine (scr_sound hE (w0 := { w with drawn := w.drawn + 1 }) (K := fun ts' H' => Wk ts' H' tsC HC) (fun ts' H' a' w' pl' hw s' => ?_) sc F _ [] [] ts1 H1 a1 _ pl1 (by omega) h3 k1 s1 (Below.refl _ _) (fun d hd => by cases hd)).2 rfl
    obtain ⟨plC, sC⟩ := hW _ _ _ _ _ _ _ hw s'
    exact ⟨rfl, _, _, _, k2, sC⟩
end
end Go.Lg
