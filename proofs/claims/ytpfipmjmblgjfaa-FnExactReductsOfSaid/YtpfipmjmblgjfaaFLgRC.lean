/- An iterator's code, walked; its contract out of it. -/
import Derived.Test.YtpfipmjmblgjfaaFLgRB
namespace Go.Lg
variable [GI]
set_option linter.unusedSectionVars false
set_option linter.unusedVariables false
set_option linter.unusedSimpArgs false
open Go.RowKit

section
variable {E : Env} {X : Nat → Prop} {B : Nat} {W0 : Orig} {ts : List LV} {H : List Blk} {a : Act} {pl : Nat → PV} {w : World}

/-- A read that is the same wherever what others own is left out. -/
def rdYW (E : Env) (o : Oper) (ts : List LV) (H : List Blk) (K : LV → List Blk → Prop) : Prop := match o.op with
  | .move x => K (ev ts x) H
  | .assign x => K (ev ts x) H
  | .indexAddr _ _ _ => opF E o ts H K
  | .load t x => match ev ts x with
    | .ref c => loadE E.T H t (.ref c) fun v => K v H
    | .hp id n path => match H[id]? with
      | some (.box _) => loadE E.T H t (.hp id n path) fun v => K v H
      | _ => False
    | _ => False
  | _ => False

theorem rdYW_op {o : Oper} {K : LV → List Blk → Prop} (h : rdYW E o ts H K) : rdB o = true ∧ opF E o ts H K := by
  unfold rdYW at h
  split at h
  · rename_i x e
    refine ⟨by unfold rdB; rw [e], ?_⟩
    unfold opF; rw [e]; simp only [opW, e]; exact h
  · rename_i x e
    refine ⟨by unfold rdB; rw [e], ?_⟩
    unfold opF; rw [e]; simp only [opW, e]; exact h
  · rename_i t x ix e; exact ⟨by unfold rdB; rw [e], h⟩
  · rename_i t x e
    refine ⟨by unfold rdB; rw [e], ?_⟩
    unfold opF; rw [e]
    simp only
    unfold loadF
    split at h
    · rename_i c ex
      split
      · rename_i id n f q ep; rw [ex] at ep; cases ep
      · rw [ex]; exact h
    · rename_i id n path ex
      split at h
      · rename_i c hb
        split
        · rename_i id' n' f q ep
          rw [ex] at ep
          cases ep
          rw [hb]
          exact h
        · rw [ex]; exact h
      · exact h.elim
    · exact h.elim
  · exact h.elim

theorem rdY_stay (hE : EnvOK E) (s : Sim X B W0 ⟨ts, H⟩ a w pl) {o : Oper} {K : LV → List Blk → Prop} (h : rdYW E o ts H K) :
    ∃ v, (∀ w', FrL X w w' → (execOp a.eval o).run E.P w' = .ok (.value v) w') ∧ ∃ x H' pl', K x H' ∧ Sim X B W0 ⟨ts, H'⟩ a w pl' ∧ RT (ctx X H' pl' w) x v := by
  obtain ⟨hr, h2⟩ := rdYW_op h
  obtain ⟨v, hv, x, H', pl', k1, k2, k3, k4⟩ := opF_still hE s hr h2
  refine ⟨v, fun w' hb => ?_, x, H', pl', k1, k2, k3⟩
  unfold rdYW at h
  split at h
  · rename_i x e
    simp only [execOp, e, Sem.run_pure] at hv ⊢
    cases hv; rfl
  · rename_i x e
    simp only [execOp, e, Sem.run_pure] at hv ⊢
    cases hv; rfl
  · rename_i t x ix e
    have hp : PS E.P (execOp a.eval o) := by
      simp only [execOp, e]
      exact PS.bind (PS.indexAt _ _ _) fun _ => PS.pure _
    exact (hp w _ w hv).2 w'
  · rename_i t x e
    simp only [execOp, e, Sem.run_bind] at hv ⊢
    cases h0 : (Instr.loadAt t (a.eval x)).run E.P w with
    | halt p q => rw [h0] at hv; cases hv
    | ok u w1 =>
      rw [h0] at hv
      simp only [Result.andThen_ok, Sem.run_pure] at hv
      cases hv
      have hx := ev_sound s x
      have ex0 : ev (St.mk ts H).tmps x = ev ts x := rfl
      rw [ex0] at hx
      have fin : ∀ ad, a.eval x = .pointer (some ad) → (∃ cs e fz, w.heap[ad.block]? = some (.cells cs e fz)) → ¬ X ad.block → (Instr.loadAt t (a.eval x)).run E.P w' = .ok v w' := by
        intro ad e1 hc hx
        rw [e1] at h0 ⊢
        simp only [Instr.loadAt, Instr.sureAddr, Sem.run_bind, Sem.run_pure, Result.andThen_ok] at h0 ⊢
        exact loadVar_stableL hb hx hc h0
      have main : (Instr.loadAt t (a.eval x)).run E.P w' = .ok v w' := by
        split at h
        · rename_i c ex
          rw [ex] at hx
          unfold loadE at h
          cases hi : E.T t with
          | none => rw [hi] at h; exact h.elim
          | some i =>
            rw [hi] at h
            have hty := hE.t t i hi
            simp only [RT, RT1, RC] at hx
            obtain ⟨ad, es, h1, h2, h3, h4, h5⟩ := hx
            simp at h1
            simp only at h
            cases hf : fitT i c <;> rw [hf] at h
            · exact h.elim
            cases es with
            | cons u0 us =>
              refine fin ad h1 ?_ fun o => h3 (.inl o)
              have h6 : w.cell? ⟨ad.block, ad.off + 0, none⟩ = some u0 := h5.2 0 u0 rfl
              unfold World.cell? at h6
              simp only at h6
              cases hh : w.heap[ad.block]? with
              | none => rw [hh] at h6; cases h6
              | some ob =>
                rw [hh] at h6
                cases ob <;> simp only at h6 <;> first | exact ⟨_, _, _, rfl⟩ | cases h6
            | nil =>
              rw [h1] at h0 ⊢
              simp only [Instr.loadAt, Instr.sureAddr, Sem.run_bind, Sem.run_pure, Result.andThen_ok] at h0 ⊢
              have hz : c.size = 0 := by have := RC.len _ _ h4; simpa using this.symm
              obtain ⟨v1, q1, q2, _⟩ := run_loadVar (w := w) hty h4 hf h5
              obtain ⟨v2, p1, p2, _⟩ := run_loadVar (w := w') hty h4 hf (ad := ad) ⟨h5.1, fun j u hu => by simp at hu⟩
              rw [h0] at q1
              cases q1
              have hst : ∃ fs, c = .st fs := by cases c <;> simp [LV.size] at hz <;> exact ⟨_, rfl⟩
              obtain ⟨fs, rfl⟩ := hst
              obtain ⟨c1, rfl, k1⟩ := q2
              obtain ⟨c2, rfl, k2⟩ := p2
              simp only [LV.size] at hz
              have l1 := RCs.len _ _ k1
              have l2 := RCs.len _ _ k2
              rw [hz] at l1 l2
              have e1 : c1 = #[] := Array.eq_empty_of_size_eq_zero (by simpa using l1)
              have e2 : c2 = #[] := Array.eq_empty_of_size_eq_zero (by simpa using l2)
              rw [p1, e1, e2]
        · rename_i id n path ex
          rw [ex] at hx
          simp only [RT, RT1, RC] at hx
          obtain ⟨u1, h1, h2⟩ := hx
          simp at h1
          subst h1
          split at h
          · rename_i c hbx
            unfold loadE at h
            cases hi : E.T t with
            | none => rw [hi] at h; exact h.elim
            | some i =>
              rw [hi] at h
              simp only [hbx] at h
              cases hg : getP c path with
              | none => rw [hg] at h; exact h.elim
              | some y =>
                obtain ⟨ad, k1, k2, k3, k4⟩ := hp_cells2 s.good h2 hbx (.inl ⟨c, y, rfl, hg⟩)
                exact fin ad k1 k2 fun o => s.good.apart id _ _ hbx k3 k4 o
          · exact h.elim
        · exact h.elim
      rw [main]
      rfl
  · exact h.elim

/-- Under its guard: carried out, or passed by. -/
def gW (all : Array Oper) (o : Oper) (ts : List LV) (A C : Prop) : Prop :=
  match o.guard with
  | none => A
  | some (j, want) =>
    match (all[j]?).bind (·.dst) with
    | none => False
    | some d => match ts.getD d .undef with
      | .bool b => (match want with | true => br b A C | false => br b C A)
      | .tup [] => C
      | _ => False

theorem gW_sound (s : Sim X B W0 ⟨ts, H⟩ a w pl) {all : Array Oper} {o : Oper} {A C : Prop} (h : gW all o ts A C) : (A ∧ Region.wanted o (yielded all a.tmps) = true) ∨ (C ∧ Region.wanted o (yielded all a.tmps) = false) := by
  unfold gW at h
  cases hg : o.guard with
  | none => rw [hg] at h; exact .inl ⟨h, by simp [Region.wanted, hg]⟩
  | some jw =>
    obtain ⟨j, want⟩ := jw
    rw [hg] at h
    simp only at h
    cases hd : (all[j]?).bind (·.dst) with
    | none => rw [hd] at h; exact h.elim
    | some d =>
      rw [hd] at h
      simp only at h
      cases hb : ts.getD d .undef <;> rw [hb] at h <;> try exact h.elim
      case tup vs =>
        cases vs with
        | cons _ _ => exact h.elim
        | nil => exact .inr ⟨h, wanted_none s hg hd hb⟩
      rename_i b
      have hv := ev_sound s (.tmp d)
      have e0 : ev (St.mk ts H).tmps (.tmp d) = .bool b := hb
      rw [e0] at hv
      have hv' : a.tmps.getD d undef = .bool b := RT_bool hv
      have hy : yielded all a.tmps j = some b := by
        have : a.tmps[d]? = some (.bool b) := by
          rw [Array.getD_eq_getD_getElem?] at hv'
          cases ht : a.tmps[d]? with
          | none => rw [ht] at hv'; simp [undef] at hv'
          | some v => rw [ht] at hv'; simp at hv'; rw [hv']
        simp [yielded, hd, this]
      have hw : Region.wanted o (yielded all a.tmps) = (b == want) := by simp [Region.wanted, hg, hy]
      cases want <;> simp only [br] at h <;> cases b <;> first
        | exact .inl ⟨h.1 rfl, by rw [hw]; rfl⟩
        | exact .inl ⟨h.2 rfl, by rw [hw]; rfl⟩
        | exact .inr ⟨h.1 rfl, by rw [hw]; rfl⟩
        | exact .inr ⟨h.2 rfl, by rw [hw]; rfl⟩
end

/-- The call of yield: what is not kept is dropped first. -/
def yieldW (l : Nat) (xs : List (List LV)) (o : Oper) (p : Pre) (k : Nat) (ts : List LV) (H : List Blk) (K : Pre → Nat → List LV → List Blk → Prop) : Prop :=
  match o.op with
  | .call ⟨.value f, args, _⟩ => match p with
    | none => False
    | some pre => ∃ tsW HW, Weak k ts H tsW HW ∧ ev tsW f = .lit (.func (.yield l) #[] #[]) ∧ lends HW (args.toList.map (ev tsW)) fun x h => h = false ∧ (∃ post, xs = pre ++ x :: post) ∧
        (putK o.dst tsW (.bool true) fun ts' => K (some (pre ++ [x])) HW.length ts' HW) ∧ (putK o.dst tsW (.bool false) fun ts' => K none HW.length ts' HW)
  | _ => False

section
variable {J : List (List LV) → Inv3} {Jx : Inv3} {E : Env} {l : Nat} {xs : List (List LV)}

/-- What a round owes, and what is owed it. -/
structure YOK (P : Program) (l : Nat) (xs : List (List LV)) (J : List (List LV) → Inv3) (Jx : Inv3) : Prop where
  iJ : ∀ pre W O Y, J pre W O Y → GI.F W
  iX : ∀ W O Y, Jx W O Y → GI.F W
  hJ : ∀ pre W O Y, J pre W O Y → ∀ b, O b → b < W.heap.size ∧ ¬ Y b
  hX : ∀ W O Y, Jx W O Y → ∀ b, O b → b < W.heap.size ∧ ¬ Y b
  gJ : ∀ pre W O Y W' Y', J pre W O Y → Grown W Y W' Y' → J pre W' O Y'
  gX : ∀ W O Y W' Y', Jx W O Y → Grown W Y W' Y' → Jx W' O Y'
  hY : ∀ pre x W1 O1 Y (vs : Array Value), J pre W1 O1 Y → (∃ post, xs = pre ++ x :: post) → vs.size = x.length → (∀ (i : Nat) y v, x[i]? = some y → vs[i]? = some v → RT (pctx (fun b => O1 b ∨ Y b) W1) y v) →
      YieldAt Fence.wide 0 P l vs W1 fun e W' =>
        (e = .returned (.bool true) ∧ ∃ O', J (pre ++ [x]) W' O' Y ∧ (pctx O1 W1).Le (pctx O' W')) ∨ (e = .returned (.bool false) ∧ ∃ O', Jx W' O' Y ∧ (pctx O1 W1).Le (pctx O' W'))

/-- The state within a drawn region. -/
def RS (J : List (List LV) → Inv3) (Jx : Inv3) (O0 : Nat → Prop) (w0 : World) (p : Pre) (k : Nat) (s : St) (a : Act) (w : World) : Prop :=
  ∃ W0 O B pl, W0.H.length = k ∧ Sim O B W0 s a w pl ∧ going J Jx p W0.w O (Yo W0.H W0.pl) ∧ FrL O0 w0 w ∧ ∀ b, b < w0.heap.size → O b → O0 b

theorem yield_sound {P : Program} (hy : YOK P l xs J Jx) {O0 : Nat → Prop} {w0 : World} {o : Oper} {p : Pre} {k : Nat} {ts : List LV} {H : List Blk} {K : Pre → Nat → List LV → List Blk → Prop} {a : Act} {w : World} (h : yieldW l xs o p k ts H K)
    (s : RS J Jx O0 w0 p k ⟨ts, H⟩ a w) {next : Act → World → Prop} {Q : Exit → Act → World → Prop} {n : Nat}
    (hn : ∀ p' k' ts' H' a' w', K p' k' ts' H' → RS J Jx O0 w0 p' k' ⟨ts', H'⟩ a' w' → next a' w') : o.wpIn Fence.wide n P a w next Q := by
  unfold yieldW at h
  split at h
  · rename_i f args ats ho
    cases p with
    | none => exact h.elim
    | some pre =>
      obtain ⟨tsW, HW, hw, hf, h⟩ := h
      obtain ⟨W0, O, B, pl0, h0, s, hj, hfr, hsub⟩ := s
      obtain ⟨pl, s⟩ := s.weakAny hw h0.symm
      have hfv := ev_sound s f
      have hf' : ev (St.mk tsW HW).tmps f = .lit (.func (.yield l) #[] #[]) := hf
      rw [hf'] at hfv
      have hfv' : a.eval f = .func (.yield l) #[] #[] := by simpa [RT, RT1, RC] using hfv.1
      obtain ⟨x, b, ⟨hb, hpost, k1, k2⟩, h5, h6⟩ := lendV_sound s.good (args.toList.map (ev tsW)) (args.toList.map a.eval) _ (by simp) (fun i x v hx hv => by
        rw [List.getElem?_map] at hx hv
        cases hq : args.toList[i]? with
        | none => rw [hq] at hx; cases hx
        | some q => rw [hq] at hx hv; cases hx; cases hv; exact ev_sound s q) h
      subst hb
      have hjw : J pre w O (Yo HW pl) := hy.gJ _ _ _ _ _ _ hj s.moved
      have s1 := s.self
      have hrun : (execOp a.eval o).run P w = (Instr.yield l (args.map a.eval)).run P w := by
        simp only [execOp, ho, resolve, Sem.run_bind, Sem.run_pure, Result.andThen_ok]
        simp [hfv', Deferred.ofValue, invoke]
      obtain ⟨fn, tmps, assign, body, hyr, hR⟩ := hy.hY pre x w O (Yo HW pl) (args.map a.eval) hjw hpost (by rw [h5]; simp) (fun i y v hy hv => by
        exact (h6 i y v hy (by rw [← Array.getElem?_toList] at hv; simpa using hv)).2 rfl)
      refine ⟨fun _ _ => trivial, ?_⟩
      rw [Oper.semAt_eq _ _ _ (fun c e => by rw [ho] at e; cases e), hrun, hyr, Oper.uponIn_round]
      refine ⟨fun h => by simp [Fence.wide] at h, ?_⟩
      have hR' : RoundIn Fence.wide (n - 1) P l fn tmps assign body w _ := ⟨trivial, fun c cs _ => hR.2 c cs (room_wide _)⟩
      refine hR'.mono ?_
      rw [putK_eq] at k1 k2
      have fr : ∀ {O' : Nat → Prop} {W' : World}, (pctx O w).Le (pctx O' W') → FrL O0 w0 W' ∧ ∀ b, b < w0.heap.size → O' b → O0 b := fun {O' W'} hl =>
        ⟨⟨Nat.le_trans hfr.1 hl.size, fun b hb hn => (hl.keep b (Nat.lt_of_lt_of_le hb hfr.1) fun o => hn (hsub b hb o)).trans (hfr.2 b hb hn)⟩, fun b hb o => hsub b hb (hl.own b (Nat.lt_of_lt_of_le hb hfr.1) o)⟩
      rintro e W' (⟨rfl, O', hj', hl⟩ | ⟨rfl, O', hj', hl⟩)
      · exact hn _ _ _ _ _ _ k1 ⟨⟨W', HW, pl⟩, O', B, pl, rfl, (s1.round (hy.iJ _ _ _ _ hj') (hy.hJ _ _ _ _ hj') hl).putO o (x := .bool true) (by simp [RT, RT1, RC]), hj', (fr hl).1, (fr hl).2⟩
      · exact hn _ _ _ _ _ _ k2 ⟨⟨W', HW, pl⟩, O', B, pl, rfl, (s1.round (hy.iX _ _ _ hj') (hy.hX _ _ _ hj') hl).putO o (x := .bool false) (by simp [RT, RT1, RC]), hj', (fr hl).1, (fr hl).2⟩
  · exact h.elim
end
end Go.Lg
