/- A call by its contract; the operations of a region, one after the other. -/
import Derived.Test.YtbiagkccgijdlaaGreatALgMP
import Derived.Test.YtbiagkccgijdlaaGreatALgVM
namespace Go.Lg
variable [GI]
set_option linter.unusedSectionVars false
set_option linter.unusedVariables false
set_option linter.unusedSimpArgs false
open Go.RowKit

def cap1 : LV → Bool
  | .st _ | .undef | .own _ _ _ | .tup _ => false
  | _ => true

def callW (P : Program) (H : List Blk) (f : FuncId) (args : List LV) (K : LV → Prop) : Prop :=
  lends H args fun ys h => ∃ r, FSpec P f ys r ∧ (match !h || flatT r with | true => K (dmT r) | false => False)

section
variable {P : Program} {X : Nat → Prop} {B : Nat} {W0 : Orig} {ts : List LV} {H : List Blk} {a : Act} {pl : Nat → PV} {w : World} {T : Tab}

theorem RCs_points {ρ : Ctx} : ∀ (xs : List LV) (cs : List Value), xs.all cap1 = true → RCs ρ xs cs → cs.length = xs.length ∧ ∀ (i : Nat) y v, xs[i]? = some y → cs[i]? = some v → RT ρ y v
  | [], cs, _, h => by simp only [RCs] at h; subst h; exact ⟨rfl, fun i y v hy => by simp at hy⟩
  | x :: xs, cs, k, h => by
    simp only [List.all_cons, Bool.and_eq_true] at k
    simp only [RCs] at h
    obtain ⟨c1, c2, rfl, h1, h2⟩ := h
    obtain ⟨k1, k2⟩ := RCs_points xs c2 k.2 h2
    have hl : c1.length = 1 := by
      rw [RC.len _ _ h1]
      have := k.1
      cases x <;> first | rfl | (simp [cap1] at this)
    obtain ⟨c, rfl⟩ := List.length_eq_one_iff.1 hl
    refine ⟨by simp [k1], fun i y v hy hv => ?_⟩
    cases i with
    | zero =>
      simp only [List.getElem?_cons_zero, Option.some.injEq, List.cons_append, List.nil_append] at hy hv
      subst hy; subst hv
      have := k.1
      cases x <;> first | (simp [cap1] at this; done) | exact h1
    | succ i => exact k2 i y v (by simpa using hy) (by simpa using hv)

theorem lendV_sound (g : Good X B W0 H pl w) : ∀ (xs : List LV) (vs : List Value) (K : List LV → Bool → Prop), vs.length = xs.length → (∀ (i : Nat) x v, xs[i]? = some x → vs[i]? = some v → RT (ctx X H pl w) x v) → lends H xs K →
    ∃ ys h, K ys h ∧ ys.length = xs.length ∧ ∀ (i : Nat) y v, ys[i]? = some y → vs[i]? = some v → RT (pctx (fun _ => False) w) y v ∧ (h = false → RT (pctx (owned X H pl) w) y v)
  | [], _, K, _, _, k => by simp only [lends] at k; exact ⟨_, _, k, rfl, fun i y v hy => by simp at hy⟩
  | x :: xs, [], K, hl, _, k => by simp at hl
  | x :: xs, v0 :: vs, K, hl, hr, k => by
    simp only [lends] at k
    obtain ⟨y, b, k1, k2, k3⟩ := lend_RT g (hr 0 x v0 rfl rfl) k
    obtain ⟨ys, b', k4, k5, k6⟩ := lendV_sound g xs vs _ (by simpa using hl) (fun i x v hx hv => hr (i + 1) x v (by simpa using hx) (by simpa using hv)) k1
    refine ⟨_, _, k4, by simp [k5], fun i z v hz hv => ?_⟩
    cases i with
    | zero =>
      simp only [List.getElem?_cons_zero, Option.some.injEq] at hz hv
      subst hz; subst hv
      exact ⟨k2, fun e => k3 (by simp only [Bool.or_eq_false_iff] at e; exact e.1)⟩
    | succ i =>
      have := k6 i z v (by simpa using hz) (by simpa using hv)
      exact ⟨this.1, fun e => this.2 (by simp only [Bool.or_eq_false_iff] at e; exact e.2)⟩

theorem callW_sound (s : Sim X B W0 ⟨ts, H⟩ a w pl) {o : Oper} {g : FuncId} {xs : List LV} {vs : Array Value} (hlen : vs.size = xs.length) (hrt : ∀ (i : Nat) x v, xs[i]? = some x → vs[i]? = some v → RT (ctx X H pl w) x v)
    (hr0 : (execOp a.eval o).run P w = (callFunc g vs).run P w) {K : LV → List Blk → Prop} (h : callW P H g xs fun x => K x H) : OpRes P o a w X B W0 ts H pl K := by
  unfold callW at h
  obtain ⟨ys, b, ⟨r, hsp, hk⟩, k2, k3⟩ := lendV_sound s.good xs vs.toList _ (by simpa using hlen) (fun i x v hx hv => hrt i x v hx (by simpa using hv)) h
  unfold FSpec at hsp
  obtain ⟨hcall, hspec⟩ := hsp
  split at hk
  · rename_i hflag
    have hr : (execOp a.eval o).run P w = .ok (.enter g vs) w := by rw [hr0, hcall]
    unfold OpRes
    rw [hr]
    have hsz : vs.size = ys.length := by rw [k2, hlen]
    cases b with
    | false =>
      refine (hspec w (owned X H pl) _ s.good.inv (fun b hb => owned_lt s.good hb) hsz (fun i y v hy hv => (k3 i y v hy (by simpa using hv)).2 rfl)).mono ?_
      rintro e' w' ⟨v, rfl, hb, bs, hnd, hrr⟩
      refine ⟨v, rfl, _, H, pl, hk, s.grow hb, RR_dm (ρ := ctx X H pl w') ⟨rfl, fun b hb' => ⟨.inl hb', owned_lt s.good hb'⟩⟩ hrr, ctx_grow hb⟩
    | true =>
      refine (hspec w (fun _ => False) _ s.good.inv (fun b hb => hb.elim) hsz (fun i y v hy hv => (k3 i y v hy (by simpa using hv)).1)).mono ?_
      rintro e' w' ⟨v, rfl, hb, bs, hnd, hrr⟩
      exact ⟨v, rfl, _, H, pl, hk, s.grow hb, RR_flat (ρ := ctx X H pl w') ⟨rfl, fun b hb' => owned_lt s.good hb'⟩ (by simpa using hflag) hrr, ctx_grow hb⟩
  · exact hk.elim

mutual
theorem demH_ex {H : List Blk} {ids : List Nat} : ∀ (x : LV) (K : LV → Bool → Prop), demH H ids x K → ∃ y d, K y d ∧ ∀ K' : LV → Bool → Prop, K' y d → demH H ids x K'
  | .hs id n, K, h => by
    simp only [demH] at h ⊢
    cases hm : memB ids id <;> rw [hm] at h
    · simp only at h ⊢
      cases hc : H[id]? with
      | none => rw [hc] at h; exact h.elim
      | some b =>
        rw [hc] at h
        cases b with
        | row t e k xs =>
          cases t with
          | false => exact ⟨_, _, h.2, fun _ h' => ⟨h.1, h'⟩⟩
          | true => obtain ⟨h1, ys, h2, h3⟩ := h; exact ⟨_, _, h3, fun _ h' => ⟨h1, ys, h2, h'⟩⟩
        | _ => exact h.elim
    · exact ⟨_, _, h, fun _ h => h⟩
  | .hp id n p, K, h => by
    simp only [demH] at h ⊢
    cases hm : memB ids id <;> rw [hm] at h
    · cases ids with
      | nil =>
        obtain ⟨y, b, h1, h2⟩ := lend1_ex (.hp id n p) _ h
        exact ⟨_, _, h1, fun K' h' => h2 (fun y _ => K' y true) h'⟩
      | cons i is => exact h.elim
    · exact ⟨_, _, h, fun _ h => h⟩
  | .st fs, K, h => by
    simp only [demH] at h ⊢
    obtain ⟨ys, b, h1, h2⟩ := demHs_ex fs _ h
    exact ⟨_, _, h1, fun K' h' => h2 _ h'⟩
  | .clos f c, K, h => by
    simp only [demH] at h ⊢
    obtain ⟨ys, b, h1, h2⟩ := demHs_ex c _ h
    exact ⟨_, _, h1, fun K' h' => h2 _ h'⟩
  | .ifc f c, K, h => by
    simp only [demH] at h ⊢
    obtain ⟨ys, b, h1, h2⟩ := demHs_ex c _ h
    exact ⟨_, _, h1, fun K' h' => h2 _ h'⟩
  | .int _ _, K, h => by simp only [demH] at h ⊢; exact ⟨_, _, h, fun _ h => h⟩
  | .bool _, K, h => by simp only [demH] at h ⊢; exact ⟨_, _, h, fun _ h => h⟩
  | .lit _, K, h => by simp only [demH] at h ⊢; exact ⟨_, _, h, fun _ h => h⟩
  | .str _, K, h => by simp only [demH] at h ⊢; exact ⟨_, _, h, fun _ h => h⟩
  | .sl _, K, h => by simp only [demH] at h ⊢; exact ⟨_, _, h, fun _ h => h⟩
  | .nil, K, h => by simp only [demH] at h ⊢; exact ⟨_, _, h, fun _ h => h⟩
  | .ref _, K, h => by simp only [demH] at h ⊢; exact ⟨_, _, h, fun _ h => h⟩
  | .undef, K, h => by simp [demH] at h
  | .own _ _ _, K, h => by simp [demH] at h
  | .tup _, K, h => by simp [demH] at h
theorem demHs_ex {H : List Blk} {ids : List Nat} : ∀ (xs : List LV) (K : List LV → Bool → Prop), demHs H ids xs K → ∃ ys d, K ys d ∧ ∀ K' : List LV → Bool → Prop, K' ys d → demHs H ids xs K'
  | [], K, h => by simp only [demHs] at h ⊢; exact ⟨_, _, h, fun _ h => h⟩
  | x :: xs, K, h => by
    simp only [demHs] at h ⊢
    obtain ⟨y, b, h1, h2⟩ := demH_ex x _ h
    obtain ⟨ys, b', h3, h4⟩ := demHs_ex xs _ h1
    exact ⟨_, _, h3, fun K' h' => h2 _ (h4 _ h')⟩
end

theorem callH_sound (s : Sim X B W0 ⟨ts, H⟩ a w pl) {o : Oper} {g : FuncId} {xs : List LV} {vs : Array Value} (hlen : vs.size = xs.length) (hrt : ∀ (i : Nat) x v, xs[i]? = some x → vs[i]? = some v → RT (ctx X H pl w) x v)
    (hr0 : (execOp a.eval o).run P w = (callFunc g vs).run P w) {K : LV → List Blk → Prop} (h : callH P H g xs K) : OpRes P o a w X B W0 ts H pl K := by
  obtain ⟨ids, as, Hin, r, Hout, hsp, rfl, h⟩ := h
  unfold HSpec at hsp
  obtain ⟨hcall, hspec⟩ := hsp
  have hlt : ∀ i ∈ ids, i < H.length := by
    -- told by what follows
    have : ∀ (ys : List LV) (K' : List LV → Bool → Prop), (∀ zs d, K' zs d → ∀ i ∈ ids, i < H.length) → demHs H ids ys K' → ∀ i ∈ ids, i < H.length := by
      intro ys
      induction ys with
      | nil => intro K' hK h; simp only [demHs] at h; exact hK _ _ h
      | cons y ys ih =>
        intro K' hK h
        simp only [demHs] at h
        obtain ⟨z, d, hz, _⟩ := demH_ex y _ h
        exact ih _ (fun zs d' h' => hK _ _ h') hz
    refine this xs _ (fun zs d h => ?_) h
    exact (lentB_spec h.2.1).lt
  obtain ⟨ys, d, ⟨rfl, hb, hflat, hk⟩, k2, k3⟩ := demV_sound s.good hlt xs vs.toList _ (by simpa using hlen) (fun i x v hx hv => hrt i x v hx (by simpa using hv)) h
  have l := lentB_spec hb
  rw [putBsK_eq] at hk
  have hr : (execOp a.eval o).run P w = .ok (.enter g vs) w := by rw [hr0, hcall]
  unfold OpRes
  rw [hr]
  have args : ∀ {ρ ρ' : Ctx}, Rens (idxN ids) (memB ids) ρ ρ' → (∀ (i : Nat) y v, ys[i]? = some y → vs[i]? = some v → RT ρ y v) → ∀ (i : Nat) x v, (renLs (idxN ids) ys)[i]? = some x → vs[i]? = some v → RT ρ' x v := by
    intro ρ ρ' hren hys i x v hx hv
    rw [renLs_map, List.getElem?_map] at hx
    cases hq : ys[i]? with
    | none => rw [hq] at hx; cases hx
    | some q =>
      rw [hq] at hx
      cases hx
      exact RT_ren hren (scs_get _ _ _ l.sa hq) (hys i q v hq hv)
  cases d with
  | false =>
    have hY : Avoids X H pl ids (othersX X H pl ids) := ⟨fun _ h => h⟩
    refine (hspec (othersX X H pl ids) B w vs (inPl ids pl) (good_in s.good l hY) (by rw [renLs_len, k2]; exact hlen) (args (rens_in l hY) fun i y v hy hv => (k3 i y v hy (by simpa using hv)).2 rfl)).mono ?_
    rintro e' w' ⟨v, pl', rfl, hg, hv, hl⟩
    have hle := le_out s.good l hY hg hl
    have ho := rens_out (X := X) (H := H) (pl := pl) (pl' := pl') (w' := w') l (fun _ h => h)
    exact ⟨v, rfl, _, _, _, hk, ⟨good_out s.good l hY hg hl fun v b hb k => BlkOK_ren ho (l.so b hb) k, s.defers, s.size, fun t x hx => RT.mono hle _ _ (s.tmps t x hx), s.le.trans hle⟩, RT_ren ho l.sr hv, hle⟩
  | true =>
    simp only at hflat
    have hY : Avoids X H pl ids (fun _ => False) := ⟨fun _ h => h.elim⟩
    have hin : Rens (idxN ids) (memB ids) (lentCtx X H pl ids w) (ctx (fun _ => False) (lentH ids H) (inPl ids pl) w) :=
      ⟨rfl, fun _ h => h, (rens_in (X := X) (w := w) l hY).hs, (rens_in (X := X) (w := w) l hY).hp⟩
    refine (hspec (fun _ => False) B w vs (inPl ids pl) (good_in s.good l hY) (by rw [renLs_len, k2]; exact hlen) (args hin fun i y v hy hv => (k3 i y v hy (by simpa using hv)).1)).mono ?_
    rintro e' w' ⟨v, pl', rfl, hg, hv, hl⟩
    have hle := le_out s.good l hY hg hl
    have fl : ∀ (v : PV) (b : Blk), b ∈ Hout → BlkOK B (ctx (fun _ => False) Hout pl' w') v b → BlkOK B (ctx X (outH ids H Hout) (outPl ids H.length pl pl') w') v (renB (outM ids H.length) b) := by
      intro v b hb k
      have hf := flatBlks_mem hflat.2 hb
      cases b with
      | dead => trivial
      | box c =>
        obtain ⟨b', es, ty, e1, e2, e3, e4⟩ := k
        exact ⟨b', es, ty, e1, e2, e3, RC_renF (ρ := ctx (fun _ => False) Hout pl' w') (ρ' := ctx X (outH ids H Hout) (outPl ids H.length pl pl') w') rfl (fun i k v h => hs_out l h) (fun i k p v h => hp_out l h) _ _ hf e4⟩
      | row t e kk zs =>
        obtain ⟨es, e1, e2, e3⟩ := k
        cases t with
        | false => exact ⟨es, e1, RCs_flat _ _ hf e2, e3⟩
        | true => exact ⟨es, e1, RRcs_flatT _ _ _ hf e2, e3⟩
      | it q p => exact k
      | bld => exact k
      | mp => exact k
      | opn => exact hf.elim
    exact ⟨v, rfl, _, _, _, hk, ⟨good_out s.good l hY hg hl fl, s.defers, s.size, fun t x hx => RT.mono hle _ _ (s.tmps t x hx), s.le.trans hle⟩,
      RT_renF (ρ := ctx (fun _ => False) Hout pl' w') (ρ' := ctx X (outH ids H Hout) (outPl ids H.length pl pl') w') rfl (fun i k v h => hs_out l h) (fun i k p v h => hp_out l h) hflat.1 hv, hle⟩

def callG (P : Program) (hf : List Nat) (H : List Blk) (g : FuncId) (args : List LV) (caps : List LV) (K : LV → List Blk → Prop) : Prop :=
  match caps.all cap1 with
  | false => False
  | true => match memB hf g with
    | true => callH P H g (args ++ caps) K
    | false => callW P H g (args ++ caps) fun x => K x H

theorem op_call {o : Oper} {c : Call} {f : Operand} (ho : o.op = .call c) (hf : c.callee = .value f) {hl : List Nat} (s : Sim X B W0 ⟨ts, H⟩ a w pl) {K : LV → List Blk → Prop}
    (h : match ev ts f with | .clos g caps => callG P hl H g (c.args.toList.map (ev ts)) caps K | _ => False) : OpRes P o a w X B W0 ts H pl K := by
  have hfv := ev_sound s f
  cases e : ev ts f <;> rw [e] at h <;> try exact h.elim
  rename_i g caps
  have e' : ev (St.mk ts H).tmps f = .clos g caps := e
  rw [e'] at hfv
  simp only [RT, RT1, RC] at hfv
  obtain ⟨cv, h1, h2⟩ := hfv
  simp only [List.cons.injEq, and_true] at h1
  simp only [callG] at h
  cases hcap : caps.all cap1 <;> rw [hcap] at h
  · exact h.elim
  simp only at h
  obtain ⟨hcl, hcp⟩ := RCs_points caps _ hcap h2
  have hr0 : (execOp a.eval o).run P w = (callFunc g (c.args.map a.eval ++ cv)).run P w := by
    simp only [execOp, ho, resolve, hf]
    simp [Deferred.ofValue, h1, invoke]
  have hlen : (c.args.map a.eval ++ cv).size = (c.args.toList.map (ev ts) ++ caps).length := by
    have := hcl
    simp only [Array.length_toList] at this
    simp [this]
  have hrt : ∀ (i : Nat) x v, (c.args.toList.map (ev ts) ++ caps)[i]? = some x → (c.args.map a.eval ++ cv)[i]? = some v → RT (ctx X H pl w) x v := by
    intro i x v hx hv
    rw [← Array.getElem?_toList, Array.toList_append, Array.toList_map] at hv
    by_cases hi : i < (c.args.toList.map (ev ts)).length
    · rw [List.getElem?_append_left hi] at hx
      rw [List.getElem?_append_left (by simpa using hi)] at hv
      rw [List.getElem?_map] at hx hv
      cases hq : c.args.toList[i]? with
      | none => rw [hq] at hx; cases hx
      | some q =>
        rw [hq] at hx hv
        cases hx; cases hv
        exact ev_sound s q
    · rw [List.getElem?_append_right (by omega)] at hx
      rw [List.getElem?_append_right (by simpa using hi)] at hv
      exact hcp _ x v hx (by simpa using hv)
  split at h
  · exact callH_sound s hlen hrt hr0 h
  · exact callW_sound s hlen hrt hr0 h

end

structure Env where
  P : Program
  T : Tab
  Z : ZTab
  C : CTab
  /-- The functions that are called by contracts that write. -/
  hf : List Nat := []
  /-- How many blocks are lent to the code. -/
  n0 : Nat := 0
  /-- The methods that are called by interfaces. -/
  M : MTab := []
  /-- The types of builders. -/
  bd : List (Nat × Nat) := []
  /-- The types of maps. -/
  mp : List (TypeId × MK × TypeId × TypeId) := []
  /-- The types whose boxes are frozen at once. -/
  fb : List Nat := []
  /-- The types of which a new variable is a tree of one element. -/
  tb : List Nat := []

structure EnvOK (E : Env) : Prop where
  t : TabOK E.P E.T
  z : ZOK E.P E.Z
  m : E.P.follows .mixedOrders = true
  c : COK E.P E.C
  mm : MOK E.P E.M
  b : BdOK E.P E.bd
  mp : MpOK E.P E.mp
theorem EnvOK.tbs {E : Env} (h : EnvOK E) (l : List Nat) : EnvOK { E with tb := l } := ⟨h.t, h.z, h.m, h.c, h.mm, h.b, h.mp⟩

section
variable {P : Program} {X : Nat → Prop} {B : Nat} {W0 : Orig} {ts : List LV} {H : List Blk} {a : Act} {pl : Nat → PV} {w : World} {T : Tab}
def invokeW (E : Env) (H : List Blk) (recv : LV) (name : String) (args : List LV) (K : LV → List Blk → Prop) : Prop :=
  match recv with
  | .lit (.iface t v) => ∃ (i : Nat) (f : FuncId) (x : LV), E.M[i]? = some (t, name, f) ∧ ifcV x = some v ∧ plainV x = true ∧ callG E.P E.hf H f (x :: args) [] K
  | .ifc t fs => ∃ (i : Nat) (f : FuncId), E.M[i]? = some (t, name, f) ∧ callG E.P E.hf H f (.st fs :: args) [] K
  | _ => False

theorem op_invoke0 {E : Env} (hE : EnvOK E) (s : Sim X B W0 ⟨ts, H⟩ a w pl) {o : Oper} {c : Call} {r : Operand} {name : String} (ho : o.op = .call c) (hf : c.callee = .invoke r name) {K : LV → List Blk → Prop}
    {t : TypeId} {v : Value} {f : FuncId} {x : LV} (hv : a.eval r = .iface t v) (hm : (t, name, f) ∈ E.M) (hx0 : RT (ctx X H pl w) x v)
    (h : callG E.P E.hf H f (x :: c.args.toList.map (ev ts)) [] K) : OpRes E.P o a w X B W0 ts H pl K := by
  have hm := hE.mm t name f hm
  have hx1 : ((#[Value.iface t v] ++ c.args.map a.eval).extract 1 (#[Value.iface t v] ++ c.args.map a.eval).size) = c.args.map a.eval := by
    apply Array.ext'
    simp
    exact List.take_of_length_le (by simp)
  have hr0 : (execOp a.eval o).run E.P w = (callFunc f (#[v] ++ c.args.map a.eval)).run E.P w := by
    have h1 : (execOp a.eval o).run E.P w = (callMethod (.iface t v) name (c.args.map a.eval)).run E.P w := by
      simp only [execOp, ho, resolve, hf, hv, Sem.run_bind, Sem.run_pure, Result.andThen_ok, invoke]
      have h0 : (#[Value.iface t v] ++ c.args.map a.eval)[0]? = some (Value.iface t v) := by rw [← Array.getElem?_toList, Array.toList_append]; rfl
      first | rw [h0] | skip
      first | simp only [hx1] | skip
    rw [h1, run_callMethod hm]
  simp only [callG, List.append_nil] at h
  have hlen : (#[v] ++ c.args.map a.eval).size = (x :: c.args.toList.map (ev ts)).length := by simp; omega
  have hrt : ∀ (i : Nat) y u, (x :: c.args.toList.map (ev ts))[i]? = some y → (#[v] ++ c.args.map a.eval)[i]? = some u → RT (ctx X H pl w) y u := by
    intro i y u hy hu
    rw [← Array.getElem?_toList, Array.toList_append, Array.toList_map] at hu
    cases i with
    | zero =>
      simp only [List.getElem?_cons_zero, Option.some.injEq] at hy
      simp at hu
      subst hy; subst hu
      exact hx0
    | succ i =>
      simp only [List.getElem?_cons_succ] at hy
      simp at hu
      rw [List.getElem?_map] at hy
      cases hq : c.args.toList[i]? with
      | none => rw [hq] at hy; cases hy
      | some q =>
        rw [hq] at hy
        cases hy
        have hq' : c.args[i]? = some q := by rw [← Array.getElem?_toList]; exact hq
        rw [hq'] at hu
        simp at hu
        subst hu
        exact ev_sound s q
  simp only [List.all_nil] at h
  cases hmm : memB E.hf f <;> rw [hmm] at h
  · exact callW_sound s hlen hrt hr0 h
  · exact callH_sound s hlen hrt hr0 h

theorem op_invoke {E : Env} (hE : EnvOK E) (s : Sim X B W0 ⟨ts, H⟩ a w pl) {o : Oper} {c : Call} {r : Operand} {name : String} (ho : o.op = .call c) (hf : c.callee = .invoke r name) {K : LV → List Blk → Prop}
    (h : invokeW E H (ev ts r) name (c.args.toList.map (ev ts)) K) : OpRes E.P o a w X B W0 ts H pl K := by
  have hrv := ev_sound s r
  have e0 : ev (St.mk ts H).tmps r = ev ts r := rfl
  rw [e0] at hrv
  unfold invokeW at h
  split at h
  · rename_i t v er
    rw [er] at hrv
    have hv : a.eval r = .iface t v := by simp only [RT, RT1, RC] at hrv; simpa using hrv.1
    obtain ⟨i, f, x, hi, hx, hp, h⟩ := h
    exact op_invoke0 hE s ho hf hv (List.mem_of_getElem? hi) (plainV_RT hp hx) h
  · rename_i t fs er
    rw [er] at hrv
    simp only [RT, RT1, RC] at hrv
    obtain ⟨vs, h1, h2⟩ := hrv
    have hv : a.eval r = .iface t (.agg vs) := by simpa using h1
    obtain ⟨i, f, hi, h⟩ := h
    exact op_invoke0 hE s ho hf hv (List.mem_of_getElem? hi) (x := .st fs) (show RT _ (.st fs) _ from ⟨vs, rfl, h2⟩) h
  · exact h.elim
end

/-- A reading, its head written out. -/
def headK (x : LV) (K : LV → Prop) : Prop :=
  match x with
  | .undef => K .undef
  | .int k n => K (.int k n)
  | .bool b => K (.bool b)
  | .lit b => K (.lit b)
  | .str s => K (.str s)
  | .nil => K .nil
  | .sl xs => K (.sl xs)
  | .own e k xs => K (.own e k xs)
  | .st fs => K (.st fs)
  | .tup vs => K (.tup vs)
  | .ref c => K (.ref c)
  | .clos f c => K (.clos f c)
  | .ifc f c => K (.ifc f c)
  | .hs i n => K (.hs i n)
  | .hp i n p => K (.hp i n p)

theorem headK_eq (x : LV) (K : LV → Prop) : headK x K = K x := by cases x <;> rfl

/-- An operation, told over readings. -/
def opW (E : Env) (o : Oper) (ts : List LV) (H : List Blk) (K : LV → List Blk → Prop) : Prop :=
  match o.op with
  | .move x => K (ev ts x) H
  | .assign x => K (ev ts x) H
  | .pick c x y => match ev ts c with | .bool b => (match b with | true => K (ev ts x) H | false => K (ev ts y) H) | _ => False
  | .extract x i => match ev ts x with | .tup vs => (match vs[i]? with | some y => (match y with | .tup _ => False | _ => K y H) | none => False) | _ => False
  | .unOp op _ x => unW op (ev ts x) fun v => K v H
  | .binOp op t x y _ => binCW E.T E.C op t (ev ts x) (ev ts y) fun v => K v H
  | .box _ x => match okBox (ev ts x) with | true => deepK (ev ts x) fun c => appK H (.box c) fun H' => K (.hp H.length 0 []) H' | false => False
  | .alloc t => match E.Z t with
    | some z => appK H (.box z) fun H' => K (.hp H.length 0 []) H'
    | none => match bdOf E.bd t with
      | some e => appK H (.bld t e false []) fun H' => K (.hp H.length 0 []) H'
      | none => False
  | .load t x => loadE E.T H t (ev ts x) fun v => K v H
  | .store t p x => storeE E.T H t (ev ts p) (ev ts x) fun id b => setHK H id b fun H' => K .undef H'
  | .fieldAddr t x f => fieldAddrE E.T H t (ev ts x) f fun v => K v H
  | .indexAddr t x ix => indexAddrW E.T H t (ev ts x) (ev ts ix) fun v => K v H
  | .index t x ix => indexW E.T t (ev ts x) (ev ts ix) fun v => K v H
  | .field t x f => fieldW E.T t (ev ts x) f fun v => K v H
  | .slice t x lo hi none => sliceW E.T t (ev ts x) (lo.map (ev ts)) (hi.map (ev ts)) fun v => K v H
  | .makeSlice t l c => makeW E.T E.Z H t (ev ts l) (ev ts c) K
  | .call ⟨.builtin .max, ⟨[x, y]⟩, _⟩ => maxW (ev ts x) (ev ts y) fun v => K v H
  | .call ⟨.builtin .min, ⟨[x, y]⟩, _⟩ => minW (ev ts x) (ev ts y) fun v => K v H
  | .call ⟨.builtin .len, ⟨[x]⟩, ⟨[t]⟩⟩ => lenW E.T H t (ev ts x) fun v => K v H
  | .call ⟨.value f, args, _⟩ => match ev ts f with | .clos g caps => callG E.P E.hf H g (args.toList.map (ev ts)) caps K | _ => False
  | .call ⟨.builtin .append, ⟨[u, x]⟩, ⟨[t, t']⟩⟩ => match Nat.beq t t' with | true => appendW E.T E.Z H t (ev ts u) (ev ts x) K | false => False
  | .buildSlice t len ⟨parts⟩ => evsK ts (parts.map (·.2)) fun xs => buildSliceW E.T E.Z H t len (parts.map (·.1)) xs K
  | .build t ⟨parts⟩ => buildW E.T E.Z t (parts.map fun p => (p.1, ev ts p.2)) fun v => K v H
  | .makeFunc (.func f) ⟨[]⟩ ⟨captured⟩ => match capB (captured.map (ev ts)) with | true => evsK ts captured fun cs => K (.clos f cs) H | false => False
  | .convert sT d x => match E.T sT with
    | some ⟨.slice e, _, _⟩ => (match E.T e with | some ⟨.int .u8, _, _⟩ => convBW E.T H d (ev ts x) fun v => K v H | _ => False)
    | some _ => convW E.T d (ev ts x) fun v => K v H
    | none => False
  | .nilCheck x => nilMW E.M (ev ts x) fun v => K v H
  | .makeFunc (.method name) ⟨[r]⟩ ⟨[]⟩ => methFW (ev ts r) name fun v => K v H
  | .call ⟨.invoke r name, args, _⟩ => invokeW E H (ev ts r) name (args.toList.map (ev ts)) K
  | .range t x => match E.T t with | some ⟨.str, _, _⟩ => (match ev ts x with | .str q => appK H (.it q 0) fun H' => K (.hp H.length 0 []) H' | _ => False) | _ => False
  | .next x true => nextW H (ev ts x) K
  | _ => False

theorem opW_sound {E : Env} (hE : EnvOK E) {X : Nat → Prop} {B : Nat} {W0 : Orig} {ts : List LV} {H : List Blk} {a : Act} {pl : Nat → PV} {w : World} (s : Sim X B W0 ⟨ts, H⟩ a w pl) {o : Oper} {K : LV → List Blk → Prop}
    (h : opW E o ts H K) : OpRes E.P o a w X B W0 ts H pl K := by
  unfold opW at h
  split at h
  · rename_i x e; exact (op_move (.inl e) s h).res
  · rename_i x e; exact (op_move (.inr e) s h).res
  · rename_i c x y e; exact (op_pick e s h).res
  · rename_i x i e; exact (op_extract e s h).res
  · rename_i op t x e; exact (op_un e s h).res
  · rename_i op t x y yt e; exact (op_binC hE.t hE.c e s h).res
  · rename_i t x e; simp only [deepK_eq, appK_eq] at h; exact op_box e s h
  · rename_i t e
    simp only [appK_eq] at h
    cases hz : E.Z t with
    | some z => rw [hz] at h; exact op_alloc hE.z e s (by rw [hz]; exact h)
    | none => rw [hz] at h; exact op_allocB hE.b e s h
  · rename_i t x e; exact (op_load hE.t e s (loadE_W h)).res
  · rename_i t p x e; simp only [setHK_eq] at h; exact op_store hE.t e s (storeE_W (K := fun H' => K .undef H') h)
  · rename_i t x f e; exact (op_fieldAddr hE.t e s (fieldAddrE_W h)).res
  · rename_i t x i e; exact (op_indexAddr hE.t e s h).res
  · rename_i t x i e; exact (op_index hE.t e s h).res
  · rename_i t x f e; exact (op_field hE.t e s h).res
  · rename_i t x lo hi e; exact op_slice hE.t e s h
  · rename_i t l c e; exact op_make hE.t hE.z e s h
  · rename_i x y ats e; exact op_max e s h
  · rename_i x y ats e; exact op_min e s h
  · rename_i x t e; exact (op_len hE.t e s h).res
  · rename_i f args ats e; exact op_call e rfl s h
  · rename_i u x t t' e
    split at h
    · rename_i htt
      have := Nat.eq_of_beq_eq_true htt
      subst this
      exact op_append hE.t hE.z e s h
    · exact h.elim
  · rename_i t len parts e; rw [evsK_eq, List.map_map] at h; exact op_buildSlice hE.t hE.z e s h
  · rename_i t parts e; exact op_build hE.t hE.z e s h
  · rename_i f captured e; simp only [evsK_eq] at h; exact op_makeFunc e s h
  · rename_i sT d x e
    split at h
    · rename_i el z1 z2 hi
      split at h
      · rename_i z3 z4 he
        exact op_convB hE.t e hi he rfl s h
      · exact h.elim
    · rename_i i _ hi
      obtain ⟨dd, hd, _⟩ := (hE.t _ _ hi).und
      exact op_conv hE.t e (by rw [hd]; rfl) s h
    · exact h.elim
  · rename_i x e; exact op_nilM hE.mm e s h
  · rename_i name r e; exact op_methF e s h
  · rename_i r name args ats e; exact op_invoke hE s e rfl h
  · rename_i t x e; simp only [appK_eq] at h; exact op_range hE.t e s h
  · rename_i x e; exact op_next e s h
  · exact h.elim

def putK (d : Option Tmp) (ts : List LV) (x : LV) (K : List LV → Prop) : Prop :=
  match d with
  | some d => headK x fun y => setK ts d y K
  | none => K ts

theorem putK_eq (o : Oper) (ts : List LV) (x : LV) (K : List LV → Prop) : putK o.dst ts x K = K (Oper.putLV o ts x) := by
  unfold putK Oper.putLV
  cases o.dst with
  | none => rfl
  | some d => simp only [headK_eq, setK_eq]

/-- Both ways of a test. -/
def br (b : Bool) (A C : Prop) : Prop := (b = true → A) ∧ (b = false → C)

theorem RT_none {ρ : Ctx} : RT ρ (.tup []) undef := ⟨#[], rfl, rfl, fun i y u h => by simp at h⟩
theorem RT_none_eq {ρ : Ctx} {v : Value} (h : RT ρ (.tup []) v) : v = .tuple #[] := by
  obtain ⟨us, h1, h2, _⟩ := h
  rw [h1, Array.eq_empty_of_size_eq_zero h2]

/-- A guard upon what was skipped itself. -/
theorem wanted_none {X : Nat → Prop} {B : Nat} {W0 : Orig} {ts : List LV} {H : List Blk} {a : Act} {w : World} {pl : Nat → PV} (s : Sim X B W0 ⟨ts, H⟩ a w pl) {all : Array Oper} {o : Oper} {j d : Nat} {want : Bool}
    (hg : o.guard = some (j, want)) (hd : (all[j]?).bind (·.dst) = some d) (hb : ts.getD d .undef = .tup []) : Region.wanted o (yielded all a.tmps) = false := by
  have hv := ev_sound s (.tmp d)
  have e0 : ev (St.mk ts H).tmps (.tmp d) = .tup [] := hb
  rw [e0] at hv
  have hv' : a.tmps.getD d undef = .tuple #[] := RT_none_eq hv
  have hy : yielded all a.tmps j = none := by
    rw [Array.getD_eq_getD_getElem?] at hv'
    cases ht : a.tmps[d]? with
    | none => simp [yielded, hd, ht]
    | some v => rw [ht] at hv'; simp at hv'; subst hv'; simp [yielded, hd, ht]
  simp [Region.wanted, hg, hy]

/-- One operation under its guard, and then the rest. -/
def opsStep (E : Env) (all : Array Oper) (o : Oper) (rest : List LV → List Blk → (List LV → List Blk → Prop) → Prop) (ts : List LV) (H : List Blk) (K : List LV → List Blk → Prop) : Prop :=
    match o.guard with
    | none => opW E o ts H fun x H' => putK o.dst ts x fun ts' => rest ts' H' K
    | some (j, want) =>
      match (all[j]?).bind (·.dst) with
      | none => False
      | some d => match ts.getD d .undef with
        | .bool b =>
          match want with
          | true => br b (opW E o ts H fun x H' => putK o.dst ts x fun ts' => rest ts' H' K) (putK o.dst ts (.tup []) fun ts' => rest ts' H K)
          | false => br b (putK o.dst ts (.tup []) fun ts' => rest ts' H K) (opW E o ts H fun x H' => putK o.dst ts x fun ts' => rest ts' H' K)
        | .tup [] => putK o.dst ts (.tup []) fun ts' => rest ts' H K
        | _ => False
def opsNil (ts : List LV) (H : List Blk) (K : List LV → List Blk → Prop) : Prop := K ts H
/-- By the recursor itself, so that the kernel's steps and the elaborator's are the same. -/
def opsW (E : Env) (all : Array Oper) (l : List Oper) : List LV → List Blk → (List LV → List Blk → Prop) → Prop :=
  List.rec (motive := fun _ => List LV → List Blk → (List LV → List Blk → Prop) → Prop) opsNil (fun o _ ih => opsStep E all o ih) l
theorem opsW_c {E : Env} {all : Array Oper} {o : Oper} {rest : List Oper} {ts : List LV} {H : List Blk} {K : List LV → List Blk → Prop} : opsW E all (o :: rest) ts H K = opsStep E all o (opsW E all rest) ts H K := rfl

end Go.Lg

