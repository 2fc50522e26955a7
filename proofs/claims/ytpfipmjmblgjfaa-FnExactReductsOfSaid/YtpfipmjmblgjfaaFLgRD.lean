/- An iterator's code: regions with a call of yield, in any order; the contract. -/
import Derived.Test.YtpfipmjmblgjfaaFLgRC
namespace Go.Lg
variable [GI]
set_option linter.unusedSectionVars false
set_option linter.unusedVariables false
set_option linter.unusedSimpArgs false
open Go.RowKit

/-- The reads that come first. -/
def takesYW (E : Env) (all : Array Oper) (l : List Nat) : List LV → List Blk → (List LV → List Blk → Prop) → Prop :=
  List.rec (motive := fun _ => List LV → List Blk → (List LV → List Blk → Prop) → Prop) (fun ts H K => K ts H) (fun i _ ih ts H K => match all[i]? with
    | some o => match o.guard with
      | none => rdYW E o ts H fun x H' => putK o.dst ts x fun ts' => ih ts' H' K
      | some _ => False
    | none => False) l
def takesYB (all : Array Oper) : List Nat → Array Bool → Bool
  | [], _ => true
  | i :: r, listed => (Region.ready .any all listed).contains i && Region.free .any all listed i && takesYB all r (listed.setIfInBounds i true)

abbrev YK := Pre → Nat → List LV → List Blk → Prop

/-- The steps behind them: 0: a move taken first; 1: the only one that is ready; 2: the call of yield. -/
def stepY (E : Env) (l : Nat) (xs : List (List LV)) (all : Array Oper) (st : Nat × Nat) (rest : Pre → Nat → List LV → List Blk → YK → Prop) (p : Pre) (k : Nat) (ts : List LV) (H : List Blk) (K : YK) : Prop :=
  match all[st.2]? with
  | none => False
  | some o => gW all o ts (match st.1 with
      | 0 => (match o.op with
        | .move x => putK o.dst ts (ev ts x) fun ts' => rest p k ts' H K
        | _ => False)
      | 1 => opF E o ts H fun x H' => putK o.dst ts x fun ts' => rest p k ts' H' K
      | _ => yieldW l xs o p k ts H fun p' k' ts' H' => rest p' k' ts' H' K)
    (putK o.dst ts (.tup []) fun ts' => rest p k ts' H K)
def stepsY (E : Env) (l : Nat) (xs : List (List LV)) (all : Array Oper) (sts : List (Nat × Nat)) : Pre → Nat → List LV → List Blk → YK → Prop :=
  List.rec (motive := fun _ => Pre → Nat → List LV → List Blk → YK → Prop) (fun p k ts H K => K p k ts H) (fun st _ ih => stepY E l xs all st ih) sts

def oneB (hf : List Nat) (o : Oper) : Bool := rdB o || clB hf o
def stepsYB (hf : List Nat) (all : Array Oper) : List (Nat × Nat) → Array Bool → Bool
  | [], listed => (Region.ready .any all listed).isEmpty
  | (c, i) :: r, listed => (match all[i]? with
      | none => false
      | some o => noDefO o && (match c with
        | 0 => (Region.ready .any all listed).contains i && Region.free .any all listed i
        | 1 => (Region.ready .any all listed == [i]) && oneB hf o
        | _ => Region.ready .any all listed == [i])) && stepsYB hf all r (listed.setIfInBounds i true)
def takesYL : List Nat → Array Bool → Array Bool
  | [], listed => listed
  | i :: r, listed => takesYL r (listed.setIfInBounds i true)
def regYB (hf : List Nat) (all : Array Oper) (l : List Nat) (sts : List (Nat × Nat)) : Bool :=
  Region.noSelect all && takesYB all l (Array.replicate all.size false) && stepsYB hf all sts (takesYL l (Array.replicate all.size false)) && Nat.beq (sts.length + l.length) all.size

section
variable {J : List (List LV) → Inv3} {Jx : Inv3} {E : Env} {l : Nat} {xs : List (List LV)}

theorem steps_sound (hE : EnvOK E) (hy : YOK E.P l xs J Jx) {O0 : Nat → Prop} {w0 : World} {all : Array Oper} (hsel : Region.noSelect all = true) {n : Nat} {Q : Exit → Act → World → Prop} (hQ : ∀ c a w, ¬ Q (.panic c) a w) {K : YK}
    (hK : ∀ p k ts H a w, K p k ts H → RS J Jx O0 w0 p k ⟨ts, H⟩ a w → Q .normal a w) : ∀ (sts : List (Nat × Nat)) (listed : Array Bool) (p : Pre) (k : Nat) (ts : List LV) (H : List Blk) (a : Act) (w : World),
    stepsYB E.hf all sts listed = true → stepsY E l xs all sts p k ts H K → RS J Jx O0 w0 p k ⟨ts, H⟩ a w → anyHI n E.P .any all Q (FrL O0 w0) sts.length listed a w
  | [], listed, p, k, ts, H, a, w, hb, h, s => ⟨by obtain ⟨_, _, _, _, _, _, _, h, _⟩ := s; exact h, by simpa [stepsYB] using hb, hK p k ts H a w h s⟩
  | (c, i) :: r, listed, p, k, ts, H, a, w, hb, h, s => by
    have h' : stepY E l xs all (c, i) (stepsY E l xs all r) p k ts H K := h
    unfold stepY at h'
    simp only [stepsYB, Bool.and_eq_true] at hb
    obtain ⟨hb1, hb2⟩ := hb
    simp only at h'
    cases hi : all[i]? with
    | none => rw [hi] at h'; exact h'.elim
    | some o =>
      rw [hi] at h' hb1
      simp only [Bool.and_eq_true] at hb1 h'
      obtain ⟨hnd, hb1⟩ := hb1
      have s' := s
      obtain ⟨W0, O, B, pl, q0, s0, hj, hfr, hsub⟩ := s'
      have only : (Region.ready .any all listed == [i]) = true → (wpOpIn Fence.wide n E.P all Q i (anyHI n E.P .any all Q (FrL O0 w0) r.length (listed.setIfInBounds i true)) a w) → anyHI n E.P .any all Q (FrL O0 w0) (r.length + 1) listed a w := by
        intro hrd hh
        rw [beq_iff_eq] at hrd
        refine ⟨hfr, ?_, ?_⟩
        · intro h; rw [hrd] at h; cases h
        · intro j hj
          rw [hrd] at hj
          simp at hj
          subst hj
          exact hh
      rcases gW_sound s0 h' with ⟨h1, hw⟩ | ⟨h1, hw⟩
      · match c with
        | 0 =>
          simp only [Bool.and_eq_true] at hb1
          simp only at h1
          split at h1
          · rename_i x e
            rw [putK_eq] at h1
            refine HI_take hi hsel hb1.2 hb1.1 hQ (v := a.eval x) (.inl ⟨hw, fun w' _ => by simp [execOp, e]⟩) ?_
            exact steps_sound hE hy hsel hQ hK r _ p k _ H _ w hb2 h1 ⟨W0, O, B, pl, q0, s0.putO o (ev_sound s0 x), hj, hfr, hsub⟩
          · exact h1.elim
        | 1 =>
          simp only [Bool.and_eq_true] at hb1
          simp only at h1
          refine only hb1.1 ?_
          unfold wpOpIn
          simp only [hi, hw, if_true]
          refine ⟨fun _ _ => trivial, ?_⟩
          rw [Oper.semAt_eq _ _ _ (noDefO_spec hnd)]
          have hob := hb1.2
          unfold oneB at hob
          rcases Bool.or_eq_true _ _ ▸ hob with hr | hc
          · obtain ⟨v, hv, x, H', pl', k1, k2, k3, _⟩ := opF_still hE s0 hr h1
            rw [hv]
            rw [putK_eq] at k1
            exact steps_sound hE hy hsel hQ hK r _ p k _ H' _ w hb2 k1 ⟨W0, O, B, pl', q0, k2.putO o k3, hj, hfr, hsub⟩
          · obtain ⟨_, g, vs, hrun, hcall⟩ := op_call_stay hE s0 hc h1
            rw [hrun]
            refine ⟨fun h => by simp [Fence.wide] at h, callsIn_wide.2 (hcall.mono ?_)⟩
            rintro e w'' ⟨v, rfl, hbw, x, k1, k2, k3⟩
            rw [putK_eq] at k1
            exact steps_sound hE hy hsel hQ hK r _ p k _ H _ w'' hb2 k1 ⟨W0, O, B, pl, q0, k2.putO o k3, hj, ⟨Nat.le_trans hfr.1 hbw.size, fun b hb hn => (hbw.block b (Nat.lt_of_lt_of_le hb hfr.1)).trans (hfr.2 b hb hn)⟩, hsub⟩
        | c + 2 =>
          simp only at hb1 h1
          refine only hb1 ?_
          unfold wpOpIn
          simp only [hi, hw, if_true]
          exact yield_sound hy h1 s fun p' k' ts' H' a' w' kk s' => steps_sound hE hy hsel hQ hK r _ p' k' ts' H' a' w' hb2 kk s'
      · rw [putK_eq] at h1
        have next : anyHI n E.P .any all Q (FrL O0 w0) r.length (listed.setIfInBounds i true) (a.put o.dst undef) w :=
          steps_sound hE hy hsel hQ hK r _ p k _ H _ w hb2 h1 ⟨W0, O, B, pl, q0, s0.putO o (x := .tup []) RT_none, hj, hfr, hsub⟩
        have fin : (Region.ready .any all listed == [i]) = true → anyHI n E.P .any all Q (FrL O0 w0) (r.length + 1) listed a w := fun hrd => by
          refine only hrd ?_
          unfold wpOpIn
          simp only [hi, hw, Bool.false_eq_true, if_false]
          exact ⟨fun _ _ => trivial, next⟩
        match c with
        | 0 =>
          simp only [Bool.and_eq_true] at hb1
          exact HI_take hi hsel hb1.2 hb1.1 hQ (v := undef) (.inr ⟨hw, rfl⟩) next
        | 1 => simp only [Bool.and_eq_true] at hb1; exact fin hb1.1
        | c + 2 => exact fin hb1

theorem takesY_sound (hE : EnvOK E) {O : Nat → Prop} {B : Nat} {W0 : Orig} {w : World} {all : Array Oper} (hsel : Region.noSelect all = true) {n : Nat} {Q : Exit → Act → World → Prop} (hQ : ∀ c a w, ¬ Q (.panic c) a w) {K : List LV → List Blk → Prop} {fuel : Nat} :
    ∀ (l : List Nat) (listed : Array Bool) (ts : List LV) (H : List Blk) (a : Act) (pl : Nat → PV), takesYB all l listed = true → takesYW E all l ts H K → Sim O B W0 ⟨ts, H⟩ a w pl →
      (∀ ts' H' a' pl', K ts' H' → Sim O B W0 ⟨ts', H'⟩ a' w pl' → anyHI n E.P .any all Q (FrL O w) fuel (takesYL l listed) a' w) →
      anyHI n E.P .any all Q (FrL O w) (fuel + l.length) listed a w
  | [], listed, ts, H, a, pl, _, h, s, hK => hK ts H a pl h s
  | i :: r, listed, ts, H, a, pl, hb, h, s, hK => by
    simp only [takesYB, Bool.and_eq_true] at hb
    obtain ⟨⟨b1, b2⟩, b4⟩ := hb
    have h' : match all[i]? with
      | some o => match o.guard with
        | none => rdYW E o ts H fun x H' => putK o.dst ts x fun ts' => takesYW E all r ts' H' K
        | some _ => False
      | none => False := h
    split at h'
    · rename_i o hi
      split at h'
      · rename_i hg
        obtain ⟨v, hv, x, H', pl', k1, k2, k3⟩ := rdY_stay hE s h'
        rw [putK_eq] at k1
        refine HI_take hi hsel b2 b1 hQ (.inl ⟨by simp [Region.wanted, hg], fun w' hb => hv w' hb⟩) ?_
        exact takesY_sound hE hsel hQ r _ _ H' _ pl' b4 k1 (k2.putO o k3) hK
      · exact h'.elim
    · exact h'.elim
end

/-! ### Code -/

abbrev CY := Pre → Nat → List LV → List Blk → (Pre → Nat → Ex → List LV → List Blk → Prop) → Prop
def yK (K : Pre → Nat → Ex → List LV → List Blk → Prop) (p : Pre) (k : Nat) (e : Ex) (ts : List LV) (H : List Blk) : Prop := K p k e ts H

/-- So many blocks are kept where they stand. -/
def Env.nk (E : Env) (k : Nat) : Env := { E with n0 := k }
theorem EnvOK.nk {E : Env} (h : EnvOK E) {k : Nat} : EnvOK (E.nk k) := ⟨h.t, h.z, h.m, h.c, h.mm, h.b⟩

def yRegion (E : Env) (l : Nat) (xs : List (List LV)) (id : Nat) (ops : Array Oper) (dr : Bool) : CY := fun p k ts H K => ∃ b : Bool, match b with
  | true => codeW (E.nk k) (.region id ops dr) ts H fun e ts' H' => yK K p k e ts' H'
  | false => match dr with
    | false => ∃ j : Nat, opsF (E.nk k) ops (ops.toList.take j) ts H fun ts1 H1 => match ops.toList.drop j with
      | [] => False
      | o :: rest => match o.guard with
        | some _ => False
        | none => yieldW l xs o p k ts1 H1 fun p' k' ts2 H2 => opsF (E.nk k') ops rest ts2 H2 fun ts3 H3 => yK K p' k' .normal ts3 H3
    | true => ∃ (l1 : List Nat) (sts : List (Nat × Nat)), regYB E.hf ops l1 sts = true ∧ takesYW E ops l1 ts H fun ts1 H1 => stepsY E l xs ops sts p H1.length ts1 H1 fun p' k' ts' H' => yK K p' k' .normal ts' H'
def ySkip : CY := fun p k ts H K => K p k .normal ts H
def ySeq (x y : CY) : CY := fun p k ts H K => x p k ts H fun p' k' e ts' H' => match e with
  | .normal => y p' k' ts' H' K
  | .exit id => yK K p' k' (.exit id) ts' H'
  | .ret => yK K p' k' .ret ts' H'
def yCond (c : Operand) (x y : CY) : CY := fun p k ts H K => match ev ts c with
  | .bool b => br b (x p k ts H K) (y p k ts H K)
  | _ => False
def yBlock (id : Nat) (b : CY) : CY := fun p k ts H K => b p k ts H fun p' k' e ts' H' => match e with
  | .normal => yK K p' k' .normal ts' H'
  | .exit id' => match Nat.beq id' id with | true => yK K p' k' .normal ts' H' | false => yK K p' k' (.exit id') ts' H'
  | .ret => yK K p' k' .ret ts' H'
@[irreducible] def loopY (_ : Code) (body : CY) (p : Pre) (k : Nat) (ts : List LV) (H : List Blk) (K : Pre → Nat → Ex → List LV → List Blk → Prop) : Prop :=
  ∃ (k0 : Nat) (I : Nat → Pre → List LV → List Blk → Prop), (∃ n ts' H', Weak k ts H ts' H' ∧ I n p ts' H') ∧ (∀ n p ts H, I n p ts H → H.length = k0) ∧
    ∀ n p ts H, I n p ts H → body p k0 ts H fun p' k' e ts' H' => match e with
      | .normal => k' = k0 ∧ ∃ m ts'' H'', m < n ∧ Weak k0 ts' H' ts'' H'' ∧ I m p' ts'' H''
      | .exit id => K p' k' (.exit id) ts' H'
      | .ret => K p' k' .ret ts' H'
def yLoop (c : Code) (b : CY) : CY := fun p k ts H K => loopY c b p k ts H K
def yExit (id : Nat) : CY := fun p k ts H K => K p k (.exit id) ts H
def yRet : CY := fun p k ts H K => K p k .ret ts H
def yNo : CY := fun _ _ _ _ _ => False

/-- An iterator's code. -/
def codeY (E : Env) (l : Nat) (xs : List (List LV)) (c : Code) : CY :=
  Code.rec (motive := fun _ => CY) ySkip (fun id ops dr => yRegion E l xs id ops dr) (fun _ _ x y => ySeq x y) (fun c _ _ x y => yCond c x y) (fun id _ b => yBlock id b) (fun c b => yLoop c b) (fun _ _ _ _ _ _ => yNo) yExit
    (fun _ _ => yNo) (fun _ => yNo) (fun _ => yNo) yRet (fun _ => yNo) c

section
variable {J : List (List LV) → Inv3} {Jx : Inv3} {E : Env} {l : Nat} {xs : List (List LV)}

theorem list_app {P : Program} {ro : Option Nat} {n : Nat} {ops : Array Oper} {Q Q' : Exit → Act → World → Prop} {l2 : List Oper} (hq : ∀ ch a w, ¬ Q (.panic ch) a w) (ho : ¬ LetsOut Q)
    (hn : ∀ a w, Q .normal a w → wpListIn (wr ro) n P ops Q' l2 a w) : ∀ (l : List Oper) (a : Act) (w : World), (∀ o ∈ l, noDefO o = true) → wpList P ops Q l a w → wpListIn (wr ro) n P ops Q' (l ++ l2) a w := by
  intro l
  induction l with
  | nil => exact fun a w _ h => hn a w h
  | cons o l ih =>
    intro a w hd h
    unfold wpList at h
    simp only [List.cons_append]
    unfold wpListIn
    split
    · rename_i hw
      rw [if_pos hw] at h
      rcases h with h | ⟨_, h⟩
      · have := oper_in (ro := ro) (n := n) (D := []) (K' := wpListIn (wr ro) n P ops Q' (l ++ l2)) (Q' := Q') (hd o (by simp)) (fun a w h => by rw [ap_nil]; exact ih a w (fun o h => hd o (by simp [h])) h) (fun ch a w h => absurd h (hq ch a w)) ho h
        rwa [ap_nil] at this
      · exact absurd h ho
    · rename_i hw
      rw [if_neg hw] at h
      exact ⟨fun _ _ => trivial, ih _ w (fun o h => hd o (by simp [h])) h⟩

theorem SY.rs {p : Pre} {k : Nat} {s : St} {a : Act} {w : World} (h : SY J Jx p k s a w) : ∃ O w0, RS J Jx O w0 p k s a w := by
  obtain ⟨W0, O, B, pl, h0, s, hj⟩ := h
  exact ⟨O, w, W0, O, B, pl, h0, s, hj, FrL.refl _ _, fun _ _ h => h⟩
theorem RS.sy {O : Nat → Prop} {w0 : World} {p : Pre} {k : Nat} {s : St} {a : Act} {w : World} (h : RS J Jx O w0 p k s a w) : SY J Jx p k s a w := by
  obtain ⟨W0, O, B, pl, h0, s, hj, _⟩ := h
  exact ⟨W0, O, B, pl, h0, s, hj⟩

theorem codeY_sound (hE : EnvOK E) (hy : YOK E.P l xs J Jx) {n : Nat} : ∀ (c : Code) (K : Pre → Nat → Ex → List LV → List Blk → Prop) (Q : Exit → Act → World → Prop),
    (∀ p k e ts H a w, K p k e ts H → SY J Jx p k ⟨ts, H⟩ a w → Q e.toExit a w) → noDefC c = true → ∀ (p : Pre) (k : Nat) (ts : List LV) (H : List Blk) (a : Act) (w : World),
    codeY E l xs c p k ts H K → SY J Jx p k ⟨ts, H⟩ a w → c.wpIn Fence.wide n E.P Q a w
  | .skip, K, Q, hK, hd, p, k, ts, H, a, w, h, s => wpIn_skip (hK p k .normal ts H a w h s)
  | .region id ops dr, K, Q, hK, hd, p, k, ts, H, a, w, h, s => by
    have h' : yRegion E l xs id ops dr p k ts H K := h
    obtain ⟨b, h'⟩ := h'
    have hd' : noDefL ops.toList = true := hd
    cases b with
    | true =>
      obtain ⟨W0, O, B, pl, q0, s, hj⟩ := s
      refine wpIn_wide.2 (codeW_sound (E := E.nk k) hE.nk q0.symm _ _ _ ?_ ts H a w pl h' s)
      intro e ts H a w pl k s
      exact hK p _ e ts H a w k ⟨W0, O, B, pl, q0, s, hj⟩
    | false =>
      cases dr with
      | true =>
        obtain ⟨l1, sts, hb, h'⟩ := h'
        simp only [regYB, Bool.and_eq_true, Nat.beq_eq] at hb
        obtain ⟨⟨⟨b1, b2⟩, b3⟩, b4⟩ := hb
        obtain ⟨W0, O, B, pl, q0, s, hj⟩ := s
        have sd := s.grow (w' := { w with drawn := w.drawn + 1 }) ⟨rfl, rfl, rfl, Nat.le_refl _, fun _ _ => rfl⟩
        refine wpIn_mono (Q := fun e a w => e = .normal ∧ Q e a w) (wpIn_region_any hE.m (any_of_HI (S := FrL O { w with drawn := w.drawn + 1 }) _ _ _ _ ?_)) (fun e a w h => h.2)
        have hQ : ∀ c a w, ¬ ((fun (e : Exit) (a : Act) (w : World) => e = .normal ∧ Q e a w) (.panic c) a w) := fun c a w h => by cases h.1
        have hh := takesY_sound (n := n) (Q := fun e a w => e = .normal ∧ Q e a w) (fuel := sts.length) hE b1 hQ l1 _ ts H a pl b2 h' sd fun ts' H' a' pl' k1 s1 => by
          refine steps_sound (Q := fun e a w => e = .normal ∧ Q e a w) hE hy b1 hQ (fun p k ts H a w kk ss => ⟨rfl, hK p k .normal ts H a w kk ss.sy⟩) sts _ p _ ts' H' a' _ b3 k1 ?_
          exact ⟨⟨_, H', pl'⟩, O, B, pl', rfl, s1.self, going_grow hy.gJ hy.gX hj s1.moved, FrL.refl _ _, fun _ _ h => h⟩
        rw [b4] at hh
        exact hh
      | false =>
        obtain ⟨j, h'⟩ := h'
        obtain ⟨W0, O, B, pl, q0, s, hj⟩ := s
        refine wpIn_region_list ?_
        have hop := opsF_sound (E := E.nk k) hE.nk (all := ops) (Q := lgQ (fun e ts1 H1 => e = .normal ∧ match ops.toList.drop j with
          | [] => False
          | o :: rest => match o.guard with
            | some _ => False
            | none => yieldW l xs o p k ts1 H1 fun p' k' ts2 H2 => opsF (E.nk k') ops rest ts2 H2 fun ts3 H3 => yK K p' k' .normal ts3 H3) O B W0)
          (fun ts1 H1 a w pl k s => ⟨.normal, ts1, H1, pl, rfl, ⟨rfl, k⟩, s⟩) (ops.toList.take j) ts H a w pl h' s
        conv => arg 6; rw [← List.take_append_drop j ops.toList]
        refine list_app (ro := none) (fun ch a w h => ?_) lgQ_out (fun a w h => ?_) _ a w (fun o ho => noDefL_mem hd' o (List.mem_of_mem_take ho)) hop
        · obtain ⟨ex, _, _, _, h, _⟩ := h; cases ex <;> cases h
        · obtain ⟨ex, ts1, H1, pl1, _, ⟨_, kk⟩, s1⟩ := h
          split at kk
          · exact kk.elim
          · rename_i o rest hdr
            rw [hdr]
            split at kk
            · exact kk.elim
            · rename_i hg
              unfold wpListIn
              rw [if_pos (by simp [Region.wanted, hg])]
              refine yield_sound (n := n) hy kk (O0 := O) (w0 := w) ⟨W0, O, B, pl1, q0, s1, hj, FrL.refl _ _, fun _ _ h => h⟩ ?_
              rintro p' k' ts' H' a' w' k'' ⟨W2, O2, B2, pl2, q2, s2, hj2, _⟩
              have hop2 := opsF_sound (E := E.nk k') hE.nk (all := ops) (Q := lgQ (fun e ts3 H3 => e = .normal ∧ K p' k' .normal ts3 H3) O2 B2 W2)
                (fun ts1 H1 a w pl k s => ⟨.normal, ts1, H1, pl, rfl, ⟨rfl, k⟩, s⟩) rest ts' H' a' w' pl2 k'' s2
              have := list_app (ro := none) (n := n) (Q' := Q) (l2 := []) (fun ch a w h => by obtain ⟨ex, _, _, _, h, _⟩ := h; cases ex <;> cases h) lgQ_out (fun a w h => ?_) rest a' w'
                (fun o ho => noDefL_mem hd' o (List.mem_of_mem_drop (i := j) (by rw [hdr]; simp [ho]))) hop2
              · rw [List.append_nil] at this; exact this
              · obtain ⟨ex, ts3, H3, pl3, he, ⟨_, k3⟩, s3⟩ := h
                exact hK p' k' .normal ts3 H3 a w k3 ⟨W2, O2, B2, pl3, q2, s3, hj2⟩
  | .seq x y, K, Q, hK, hd, p, k, ts, H, a, w, h, s => by
    refine wpIn_seq (codeY_sound hE hy x _ _ (fun p k e ts H a w kk s => ?_) (noDefC_seq hd).1 p k ts H a w (h : codeY E l xs x p k ts H _) s)
    cases e with
    | normal => exact codeY_sound hE hy y K Q hK (noDefC_seq hd).2 p k ts H a w kk s
    | exit id => exact hK p k (.exit id) ts H a w kk s
    | ret => exact hK p k .ret ts H a w kk s
  | .cond c x y, K, Q, hK, hd, p, k, ts, H, a, w, h, s => by
    have h' : yCond c (codeY E l xs x) (codeY E l xs y) p k ts H K := h
    unfold yCond at h'
    have s' := s
    obtain ⟨W0, O, B, pl, q0, s, hj⟩ := s
    have hv := ev_sound s c
    cases e : ev ts c <;> rw [e] at h' <;> try exact h'.elim
    rename_i b
    have e' : ev (St.mk ts H).tmps c = .bool b := e
    rw [e'] at hv
    simp only [br] at h'
    refine wpIn_cond_split (a := a) (t := b) (RT_bool hv) (fun hb => ?_) (fun hb => ?_)
    · exact codeY_sound hE hy x K Q hK (noDefC_cond hd).1 p k ts H a w (h'.1 hb) s'
    · exact codeY_sound hE hy y K Q hK (noDefC_cond hd).2 p k ts H a w (h'.2 hb) s'
  | .block id b, K, Q, hK, hd, p, k, ts, H, a, w, h, s => by
    refine wpIn_block (codeY_sound hE hy b _ _ (fun p k e ts H a w kk s => ?_) hd p k ts H a w (h : codeY E l xs b p k ts H _) s)
    cases e with
    | normal => exact hK p k .normal ts H a w kk s
    | exit id' =>
      show (if id' = id then _ else _)
      simp only at kk
      split at kk
      · rename_i hh
        rw [if_pos (Nat.eq_of_beq_eq_true hh)]; exact hK p k .normal ts H a w kk s
      · rename_i hh
        rw [if_neg (Nat.ne_of_beq_eq_false hh)]; exact hK p k (.exit id') ts H a w kk s
    | ret => exact hK p k .ret ts H a w kk s
  | .loop b, K, Q, hK, hd, p, k, ts, H, a, w, h, s => by
    have h' : loopY b (codeY E l xs b) p k ts H K := h
    unfold loopY at h'
    obtain ⟨k0, I, ⟨m, ts', H', hw, hI⟩, hlen, hr⟩ := h'
    obtain ⟨W0, O, B, pl, q0, s, hj⟩ := s
    obtain ⟨pl0, s0⟩ := s.weakAny hw q0.symm
    refine wpIn_loop_n (fun m a w => ∃ p ts H, I m p ts H ∧ SY J Jx p k0 ⟨ts, H⟩ a w) ?_ m a w ⟨p, ts', H', hI, ⟨w, H', pl0⟩, O, B, pl0, hlen _ _ _ _ hI, s0.self, going_grow hy.gJ hy.gX hj s0.moved⟩
    rintro m a w ⟨p, ts, H, hI, s⟩
    refine codeY_sound hE hy b _ _ (fun p k e ts1 H1 a1 w1 kk s1 => ?_) hd p k0 ts H a w (hr m p ts H hI) s
    clear s
    cases e with
    | normal =>
      obtain ⟨hk, m, ts'', H'', hm, hw, hI'⟩ := kk
      obtain ⟨W0, O, B, pl, q0, s, hj⟩ := s1
      obtain ⟨pl1, s1⟩ := s.weakAny hw (by rw [q0, hk])
      exact ⟨m, hm, p, ts'', H'', hI', ⟨w1, H'', pl1⟩, O, B, pl1, hlen _ _ _ _ hI', s1.self, going_grow hy.gJ hy.gX hj s1.moved⟩
    | exit id => exact hK p k (.exit id) ts1 H1 a1 w1 kk s1
    | ret => exact hK p k .ret ts1 H1 a1 w1 kk s1
  | .exit id, K, Q, hK, hd, p, k, ts, H, a, w, h, s => wpIn_exit (hK p k (.exit id) ts H a w h s)
  | .ret, K, Q, hK, hd, p, k, ts, H, a, w, h, s => wpIn_ret (hK p k .ret ts H a w h s)
  | .rangeFunc _ _ _ _, _, _, _, hd, _, _, _, _, _, _, h, _ => False.elim h
  | .scope _, _, _, _, _, _, _, _, _, _, _, h, _ => False.elim h
  | .label _, _, _, _, _, _, _, _, _, _, _, h, _ => False.elim h
  | .goto _, _, _, _, _, _, _, _, _, _, _, h, _ => False.elim h
  | .refuse _, _, _, _, _, _, _, _, _, _, _, h, _ => False.elim h
end

theorem pctx_nil {O : Nat → Prop} {pl : Nat → PV} {w : World} : (pctx O w).Le (ctx O [] pl w) :=
  ⟨Nat.le_refl _, fun _ _ _ => rfl, fun b _ k => by rcases k with k | ⟨id, blk, k, _⟩; exact k; simp at k, fun _ _ _ k => k.elim, fun _ _ _ _ k => k.elim⟩

/-- An iterator's contract, out of its code. -/
theorem GSpec_of_code {E : Env} (hE : EnvOK E) {g : FuncId} {fn : Func} {c : Code} (hf : E.P.funcs[g]? = some fn) (hb : fn.body = some c) (hr : fn.results = #[]) (hd : noDefC c = true)
    (hc : ∀ (vs : Array Value) (w : World), (callFunc g vs).run E.P w = .ok (.enter g vs) w) (caps : List LV) (xs : List (List LV))
    (h : ∀ l, codeY E l xs c (some []) 0 (pad (.lit (.func (.yield l) #[] #[]) :: caps) fn.ntmps) [] fun p k e ts H => match e with
      | .exit _ => False
      | _ => match p with | some pre => pre = xs | none => True) : GSpec E.P g caps xs := by
  unfold GSpec
  refine ⟨hc, fun l J Jx W O lb hI iJ iX hJ hJx gJ gX hsz hcap hY hj => ?_⟩
  have hy : YOK E.P l xs J Jx := ⟨iJ, iX, hJ, hJx, gJ, gX, hY⟩
  have hy0 : (Yo ([] : List Blk) fun _ => (⟨.nilIface, []⟩ : PV)) = fun _ => False := funext fun b => propext ⟨fun ⟨id, blk, h, _⟩ => by simp at h, fun h => h.elim⟩
  refine calls_of_wp hf hb (wpIn_wide (n := 0).1 (codeY_sound hE hy c _ _ ?_ hd (some []) 0 _ [] _ W (h l) ⟨⟨W, [], fun _ => ⟨.nilIface, []⟩⟩, O, W.heap.size, fun _ => ⟨.nilIface, []⟩, rfl, ?_, by simp only; rw [hy0]; exact hj⟩))
  · intro p k e ts H a w kk s
    obtain ⟨W0, O', B, pl, q0, s, hj⟩ := s
    have hres : (∃ v, (Ending.returned (Value.tuple #[])) = .returned v) ∧ ((∃ O' Y, J xs w O' Y) ∨ ∃ O' Y, Jx w O' Y) := by
      refine ⟨⟨_, rfl⟩, ?_⟩
      cases p with
      | none => exact .inr ⟨O', _, gX _ _ _ _ _ hj s.moved⟩
      | some pre =>
        have : pre = xs := by cases e <;> first | exact kk.elim | exact kk
        subst this
        exact .inl ⟨O', _, gJ _ _ _ _ _ _ hj s.moved⟩
    cases e with
    | exit id => exact kk.elim
    | normal => exact ⟨s.defers, _, results_none hr _ _ _, hres⟩
    | ret => exact ⟨s.defers, _, results_none hr _ _ _, hres⟩
  · refine ⟨⟨Below.refl _ _, ⟨Nat.le_refl _, hI⟩, fun id blk hb => by simp at hb, fun i j bi bj b hi => by simp at hi, fun i bi hi => by simp at hi, fun b hb => (hJ _ _ _ _ hj b hb).1, fun _ _ => rfl, fun id blk b hb => by simp at hb⟩, rfl, by simp [pad, hsz]; omega, ?_, Ctx.Le.refl _⟩
    refine pad_RT (by simp [hsz]; omega) fun i x v hx hv => ?_
    cases i with
    | zero =>
      simp only [List.getElem?_cons_zero, Option.some.injEq] at hx
      subst hx
      rw [← Array.getElem?_toList] at hv
      simp at hv
      subst hv
      simp [RT, RT1, RC, Value.oneCell']
    | succ i =>
      simp only [List.getElem?_cons_succ] at hx
      rw [← Array.getElem?_toList] at hv
      simp at hv
      exact RT.mono pctx_nil _ _ (hcap i x v hx (by simpa using hv))
end Go.Lg
