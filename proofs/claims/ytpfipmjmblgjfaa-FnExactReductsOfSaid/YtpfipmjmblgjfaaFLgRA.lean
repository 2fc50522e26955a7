/- Code walked in a round of a range over a function, or where calls are deferred already: the same logic, inside a fence. -/
import Derived.Test.YtpfipmjmblgjfaaFLgN
import Derived.RangeFuncMany
import Derived.RangeFuncLeaves
import Derived.TacticsIn
import Derived.OrdersIn
namespace Go.Lg
variable [GI]
set_option linter.unusedSectionVars false
set_option linter.unusedVariables false
set_option linter.unusedSimpArgs false
open Go.RowKit

/-- The wide fence, in a round or not. -/
@[reducible] def wr (ro : Option Nat) : Fence := { Fence.wide with round := ro }

/-- Deferred calls that were there before. -/
def _root_.Go.Act.ap (a : Act) (D : List Deferred) : Act := { a with defers := a.defers ++ D }
theorem ap_put (a : Act) (D : List Deferred) (d : Option Tmp) (v : Value) : (a.put d v).ap D = (a.ap D).put d v := by cases d <;> rfl
theorem ap_eval (a : Act) (D : List Deferred) : (a.ap D).eval = a.eval := rfl
theorem ap_nil (a : Act) : a.ap [] = a := by simp [Act.ap]

def noDefO (o : Oper) : Bool := match o.op with | .defer _ => false | _ => true
def noDefL : List Oper → Bool
  | [] => true
  | o :: os => match noDefO o with | true => noDefL os | false => false
def noDefC : Code → Bool
  | .region _ ops _ => noDefL ops.toList
  | .seq x y => noDefC x && noDefC y
  | .cond _ x y => noDefC x && noDefC y
  | .block _ b => noDefC b
  | .loop b => noDefC b
  | .skip => true
  | .exit _ => true
  | .ret => true
  | _ => false

theorem noDefO_spec {o : Oper} (h : noDefO o = true) (c : Call) : o.op ≠ .defer c := by
  intro e; simp [noDefO, e] at h
theorem noDefL_mem : ∀ {l : List Oper}, noDefL l = true → ∀ o ∈ l, noDefO o = true
  | [], _, o, h => by simp at h
  | x :: xs, h, o, ho => by
    simp only [noDefL] at h
    split at h
    · rename_i hx
      rcases List.mem_cons.1 ho with rfl | ho
      · exact hx
      · exact noDefL_mem h o ho
    · cases h

section
variable {P : Program} {ro : Option Nat} {n : Nat} {D : List Deferred}

theorem callsIn_wr {f : FuncId} {args : Array Value} {w : World} {R : Ending → World → Prop} {m : Nat} (h : Calls P f args w R) : CallsIn (wr ro) m P f args w R :=
  (callsIn_wide (n := m)).2 h
theorem rowsIn_wr {row : String} {args : Array Value} {w : World} {R : Value → World → Prop} {m : Nat} (h : Rows P row args w R) : RowsIn (wr ro) m P row args w R :=
  fun c cs _ => let ⟨v, w', r, s⟩ := h c cs; ⟨v, w', r, (stepsIn_wide (P := P)).2 s⟩

theorem oper_in {o : Oper} {K K' : Act → World → Prop} {Q Q' : Exit → Act → World → Prop} {a : Act} {w : World} (hd : noDefO o = true) (hk : ∀ a w, K a w → K' (a.ap D) w)
    (hq : ∀ ch a w, Q (.panic ch) a w → Q' (.panic ch) (a.ap D) w) (ho : ¬ LetsOut Q) (h : o.wp P a w K Q) : o.wpIn (wr ro) n P (a.ap D) w K' Q' := by
  refine ⟨fun _ _ => trivial, ?_⟩
  rw [Oper.semAt_eq _ _ _ (noDefO_spec hd), ap_eval]
  unfold Oper.wp at h
  revert h
  generalize (execOp a.eval o).run P w = r
  intro h
  cases r with
  | halt x w' => cases x <;> first | exact h.elim | exact hq _ _ _ h
  | ok x w' =>
    cases x <;> first
      | exact h.elim
      | (simp only [Oper.uponIn_value]; rw [← ap_put]; exact hk _ _ h)
      | (simp only [Oper.uponIn_skip]; rw [← ap_put]; exact hk _ _ h)
      | (simp only [Oper.uponIn_defer]; rw [show ({ a.ap D with defers := _ :: (a.ap D).defers } : Act) = ({ a with defers := _ :: a.defers } : Act).ap D from rfl, ← ap_put]; exact hk _ _ h)
      | exact ⟨fun h => by simp [wr, Fence.wide] at h, rowsIn_wr (Rows.mono h (fun _ _ h => by rw [← ap_put]; exact hk _ _ h))⟩
      | exact ⟨fun h => by simp [wr, Fence.wide] at h, callsIn_wr (Calls.mono h (fun e w h => by
          cases e with
          | returned v => show K' _ _; rw [← ap_put]; exact hk _ _ h
          | panicked ch => exact hq _ _ _ h
          | outgrown => exact absurd h ho))⟩

theorem list_in {ops : Array Oper} {Q Q' : Exit → Act → World → Prop} (hq : ∀ e a w, Q e a w → Q' e (a.ap D) w) (ho : ¬ LetsOut Q) : ∀ (l : List Oper), (∀ o ∈ l, noDefO o = true) → ∀ (a : Act) (w : World),
    wpList P ops Q l a w → wpListIn (wr ro) n P ops Q' l (a.ap D) w
  | [], _, a, w, h => hq _ _ _ h
  | o :: l, hd, a, w, h => by
    unfold wpList at h
    unfold wpListIn
    have e : (a.ap D).tmps = a.tmps := rfl
    rw [e]
    split
    · rename_i hw
      rw [if_pos hw] at h
      rcases h with h | ⟨_, h⟩
      · exact oper_in (hd o (by simp)) (fun a w h => list_in hq ho l (fun o h => hd o (by simp [h])) a w h) (fun ch a w h => hq _ a w h) ho h
      · exact absurd h ho
    · rename_i hw
      rw [if_neg hw] at h
      refine ⟨fun _ _ => trivial, ?_⟩
      rw [← ap_put]
      exact list_in hq ho l (fun o h => hd o (by simp [h])) _ w h

theorem any_in {md : Region.Mode} {ops : Array Oper} {Q Q' : Exit → Act → World → Prop} (hd : ∀ o ∈ ops.toList, noDefO o = true) (hq : ∀ e a w, Q e a w → Q' e (a.ap D) w) (ho : ¬ LetsOut Q) :
    ∀ (fuel : Nat) (listed : Array Bool) (a : Act) (w : World), wpAny P md ops Q fuel listed a w → wpAnyIn (wr ro) n P md ops Q' fuel listed (a.ap D) w
  | 0, _, _, _, h => ⟨h.1, hq _ _ _ h.2⟩
  | fuel + 1, listed, a, w, h => ⟨fun e => hq _ _ _ (h.1 e), fun i hi => by
    have h2 := h.2 i hi
    unfold wpOp at h2
    unfold wpOpIn
    have e : (a.ap D).tmps = a.tmps := rfl
    split
    · rename_i ho'; simp only [ho'] at h2; exact any_in hd hq ho fuel _ _ _ h2
    · rename_i o ho'
      simp only [ho'] at h2
      rw [e]
      have hm : o ∈ ops.toList := by simpa using Array.mem_of_getElem? ho'
      split
      · rename_i hw
        simp only [hw, if_true] at h2
        rcases h2 with h2 | ⟨_, h2⟩
        · exact oper_in (hd o hm) (fun a w h => any_in hd hq ho fuel _ a w h) (fun ch a w h => hq _ a w h) ho h2
        · exact absurd h2 ho
      · rename_i hw
        simp only [hw] at h2
        refine ⟨fun _ _ => trivial, ?_⟩
        rw [← ap_put]
        exact any_in hd hq ho fuel _ _ w h2⟩

theorem rgD_in {ops : Array Oper} {Q Q' : Exit → Act → World → Prop} (hm : P.follows .mixedOrders = true) (hd : noDefL ops.toList = true) (hq : ∀ e a w, Q e a w → Q' e (a.ap D) w) (ho : ¬ LetsOut Q)
    {id : Nat} {a : Act} {w : World} (h : RgD P ops Q a w) : (Code.region id ops true).wpIn (wr ro) n P Q' (a.ap D) w :=
  wpIn_region_any hm (any_in (noDefL_mem hd) hq ho _ _ _ _ h)

/-- A loop whose rounds are counted down beside the state, inside a fence. -/
theorem wpIn_loop_n {F : Fence} {Q : Exit → Act → World → Prop} {c : Code} (I : Nat → Act → World → Prop)
    (round : ∀ m a w, I m a w → c.wpIn F n P (Exit.then (fun a' w' => ∃ k, k < m ∧ I k a' w') Q) a w) (m : Nat) (a : Act) (w : World) (h₀ : I m a w) : (Code.loop c).wpIn F n P Q a w := by
  intro b k cs hro hb hr
  have key : ∀ m a w, I m a w → ∃ e a' w', Q e a' w' ∧ ArrivesIn (Machine.fenced P F) P (lone (b.atR a (.code c :: .inLoop c :: k)) cs w) b k cs e a' w' := by
    intro m
    induction m using Nat.strongRecOn with
    | _ m ih =>
      intro a w hI
      obtain ⟨e, a₁, w₁, hq, harr⟩ := round m a w hI b (.inLoop c :: k) cs hro hb hr
      cases e with
      | normal =>
        obtain ⟨m', hlt, hI₁⟩ := hq
        obtain ⟨e₂, a₂, w₂, hq₂, harr₂⟩ := ih m' hlt a₁ w₁ hI₁
        exact ⟨e₂, a₂, w₂, hq₂, .of_steps (StepsIn.trans harr (.one (fenced_calm hb hr rfl) stepR_inLoop)) harr₂⟩
      | exit id => exact ⟨_, a₁, w₁, hq, .pass (x := .inLoop c) rfl (fun _ _ => .inl (by simp)) harr⟩
      | goto l => exact ⟨_, a₁, w₁, hq, .pass (x := .inLoop c) rfl (fun _ _ => .inl (by simp)) harr⟩
      | ret => exact ⟨_, a₁, w₁, hq, .pass (x := .inLoop c) rfl (fun _ _ => .inl (by simp)) harr⟩
      | panic ch => exact ⟨_, a₁, w₁, hq, .pass (x := .inLoop c) rfl (fun _ _ => .inl (by simp)) harr⟩
      | outgrown => exact ⟨_, a₁, w₁, hq, .pass (x := .inLoop c) rfl (fun _ _ => .inl (by simp)) harr⟩
  obtain ⟨e, a', w', hq, harr⟩ := key m a w h₀
  exact ⟨e, a', w', hq, .of_steps (.one (fenced_calm hb hr rfl) stepR_loop) harr⟩
end

/-- What the logic says at a way out. -/
def lgQ (K : Ex → List LV → List Blk → Prop) (X : Nat → Prop) (B : Nat) (W0 : Orig) : Exit → Act → World → Prop :=
  fun e a w => ∃ ex ts H pl, e = Ex.toExit ex ∧ K ex ts H ∧ Sim X B W0 ⟨ts, H⟩ a w pl
theorem lgQ_out {K : Ex → List LV → List Blk → Prop} {X : Nat → Prop} {B : Nat} {W0 : Orig} : ¬ LetsOut (lgQ K X B W0) := by
  rintro ⟨a, w, ex, ts, H, pl, h, _⟩; cases ex <;> cases h

/-- A region, as the code's logic has it: told by the model's own lists. -/
theorem region_rg {E : Env} (hE : EnvOK E) {X : Nat → Prop} {B : Nat} {W0 : Orig} (hn : E.n0 = W0.H.length) {id : Nat} {ops : Array Oper} {K : Ex → List LV → List Blk → Prop} {ts : List LV} {H : List Blk} {a : Act} {w : World} {pl : Nat → PV}
    (h : codeW E (.region id ops true) ts H K) (s : Sim X B W0 ⟨ts, H⟩ a w pl) : RgD E.P ops (lgQ K X B W0) a w := by
  have hK : ∀ ts H a w pl, K .normal ts H → Sim X B W0 ⟨ts, H⟩ a w pl → lgQ K X B W0 .normal a w := fun ts H a w pl k s => ⟨.normal, ts, H, pl, rfl, k, s⟩
  simp only [codeW_draw] at h
  obtain ⟨b, h⟩ := h
  cases b with
  | true => exact draw_sound (E := E.q) hE.q (drawB_spec h.1) (K := fun ts' H' => K .normal ts' H') hK h.2 s
  | false =>
    obtain ⟨n, h⟩ := h
    cases n with
    | zero =>
      obtain ⟨m, h⟩ := h
      cases m with
      | zero =>
        obtain ⟨z, h⟩ := h
        cases z with
        | zero =>
          obtain ⟨l, sc, h1, h2⟩ := h
          exact pr_sound hE h1 (Wk := fun ts H ts' H' => Weak E.n0 ts H ts' H') (fun ts H ts' H' a w pl hw s => s.weakAny hw hn) (K := fun ts' H' => K .normal ts' H') hK h2 s
        | succ z =>
          obtain ⟨l, sc, h0, h1, h2⟩ := h
          simp only [Bool.and_eq_true] at h0
          exact pr_last hE (Nat.le_of_ble_eq_true h0.1) h0.2 h1 (Wk := fun ts H ts' H' => Weak E.n0 ts H ts' H') (fun ts H ts' H' a w pl hw s => s.weakAny hw hn) (K := fun ts' H' => K .normal ts' H') hK h2 s
      | succ m =>
        obtain ⟨ids, h1, h2⟩ := h
        exact headW_sound hE h1 (K := fun ts' H' => K .normal ts' H') hK h2 s
    | succ n =>
      obtain ⟨h1, h2⟩ := h
      exact okB_sound hE h1 (K := fun ts' H' => K .normal ts' H') hK h2 s

theorem noDefC_seq {x y : Code} (h : noDefC (.seq x y) = true) : noDefC x = true ∧ noDefC y = true := by
  simpa [noDefC] using h
theorem noDefC_cond {c : Operand} {x y : Code} (h : noDefC (.cond c x y) = true) : noDefC x = true ∧ noDefC y = true := by
  simpa [noDefC] using h

/-- Code walked by the logic, in a round's frame too, whatever calls are deferred already. -/
theorem codeW_in {E : Env} (hE : EnvOK E) {X : Nat → Prop} {B : Nat} {W0 : Orig} (hn : E.n0 = W0.H.length) {ro : Option Nat} {n : Nat} {D : List Deferred} : ∀ (c : Code) (K : Ex → List LV → List Blk → Prop) (Q : Exit → Act → World → Prop),
    (∀ e ts H a w pl, K e ts H → Sim X B W0 ⟨ts, H⟩ a w pl → Q e.toExit (a.ap D) w) → noDefC c = true → ∀ (ts : List LV) (H : List Blk) (a : Act) (w : World) (pl : Nat → PV),
    codeW E c ts H K → Sim X B W0 ⟨ts, H⟩ a w pl → c.wpIn (wr ro) n E.P Q (a.ap D) w
  | .skip, K, Q, hK, hd, ts, H, a, w, pl, h, s => by simp only [codeW_skip] at h; exact wpIn_skip (hK .normal ts H a w pl h s)
  | .region id ops false, K, Q, hK, hd, ts, H, a, w, pl, h, s => by
    simp only [codeW_region] at h
    refine wpIn_region_list (list_in (Q := lgQ K X B W0) ?_ lgQ_out _ (noDefL_mem hd) a w (opsF_sound hE (K := fun ts' H' => K .normal ts' H') (fun ts H a w pl k s => ⟨.normal, ts, H, pl, rfl, k, s⟩) _ ts H a w pl h s))
    rintro e a w ⟨ex, ts, H, pl, rfl, k, s⟩
    exact hK ex ts H a w pl k s
  | .region id ops true, K, Q, hK, hd, ts, H, a, w, pl, h, s => by
    refine rgD_in hE.m hd (Q := lgQ K X B W0) ?_ lgQ_out (region_rg hE hn h s)
    rintro e a w ⟨ex, ts, H, pl, rfl, k, s⟩
    exact hK ex ts H a w pl k s
  | .seq x y, K, Q, hK, hd, ts, H, a, w, pl, h, s => by
    simp only [codeW_seq] at h
    refine wpIn_seq (codeW_in hE hn x _ _ (fun e ts H a w pl k s => ?_) (noDefC_seq hd).1 ts H a w pl h s)
    cases e with
    | normal => exact codeW_in hE hn y K Q hK (noDefC_seq hd).2 ts H a w pl k s
    | exit id => exact hK (.exit id) ts H a w pl k s
    | ret => exact hK .ret ts H a w pl k s
  | .cond c x y, K, Q, hK, hd, ts, H, a, w, pl, h, s => by
    simp only [codeW_cond] at h
    have hv := ev_sound s c
    cases e : ev ts c <;> rw [e] at h <;> try exact h.elim
    rename_i b
    have e' : ev (St.mk ts H).tmps c = .bool b := e
    rw [e'] at hv
    simp only [br] at h
    refine wpIn_cond_split (a := a.ap D) (t := b) (RT_bool hv) (fun hb => ?_) (fun hb => ?_)
    · exact codeW_in hE hn x K Q hK (noDefC_cond hd).1 ts H a w pl (h.1 hb) s
    · exact codeW_in hE hn y K Q hK (noDefC_cond hd).2 ts H a w pl (h.2 hb) s
  | .block id b, K, Q, hK, hd, ts, H, a, w, pl, h, s => by
    simp only [codeW_block] at h
    refine wpIn_block (codeW_in hE hn b _ _ (fun e ts H a w pl k s => ?_) hd ts H a w pl h s)
    cases e with
    | normal => exact hK .normal ts H a w pl k s
    | exit id' =>
      show (if id' = id then _ else _)
      simp only at k
      split at k
      · rename_i hh
        rw [if_pos (Nat.eq_of_beq_eq_true hh)]; exact hK .normal ts H a w pl k s
      · rename_i hh
        rw [if_neg (Nat.ne_of_beq_eq_false hh)]; exact hK (.exit id') ts H a w pl k s
    | ret => exact hK .ret ts H a w pl k s
  | .loop b, K, Q, hK, hd, ts, H, a, w, pl, h, s => by
    simp only [codeW_loop, loopW] at h
    obtain ⟨I, ⟨m, ts', H', hw, hI⟩, hr⟩ := h
    obtain ⟨pl0, s0⟩ := s.weakAny hw hn
    refine wpIn_loop_n (fun m a w => ∃ ts H pl a0, a = Act.ap a0 D ∧ I m ts H ∧ Sim X B W0 ⟨ts, H⟩ a0 w pl) ?_ m (a.ap D) w ⟨ts', H', pl0, a, rfl, hI, s0⟩
    rintro m a w ⟨ts, H, pl, a0, rfl, hI, s⟩
    refine codeW_in hE hn b _ _ (fun e ts H a w pl k s => ?_) hd ts H a0 w pl (hr m ts H hI) s
    cases e with
    | normal =>
      obtain ⟨m, ts'', H'', hm, hw, hI'⟩ := k
      obtain ⟨pl1, s1⟩ := s.weakAny hw hn
      exact ⟨m, hm, ts'', H'', pl1, a, rfl, hI', s1⟩
    | exit id => exact hK (.exit id) ts H a w pl k s
    | ret => exact hK .ret ts H a w pl k s
  | .exit id, K, Q, hK, hd, ts, H, a, w, pl, h, s => by simp only [codeW_exit] at h; exact wpIn_exit (hK (.exit id) ts H a w pl h s)
  | .ret, K, Q, hK, hd, ts, H, a, w, pl, h, s => by simp only [codeW_ret] at h; exact wpIn_ret (hK .ret ts H a w pl h s)
  | .rangeFunc _ _ _ _, _, _, _, _, _, _, _, _, _, h, _ => False.elim h
  | .scope _, _, _, _, _, _, _, _, _, _, h, _ => False.elim h
  | .label _, _, _, _, _, _, _, _, _, _, h, _ => False.elim h
  | .goto _, _, _, _, _, _, _, _, _, _, h, _ => False.elim h
  | .refuse _, _, _, _, _, _, _, _, _, _, h, _ => False.elim h

end Go.Lg
