/- A call by its contract; the operations of a region, one after the other. -/
import Derived.Test.YtciegilcimbmoaaLgQ
namespace Go.Lg
open Go.RowKit

def one1 : LV → Bool
  | .ref _ | .int _ _ | .bool _ | .str _ | .clos _ _ => true
  | _ => false

def callW (P : Program) (H : List Blk) (f : FuncId) (args caps : List LV) (K : LV → Prop) : Prop :=
  match caps.all one1 with
  | true => lends H args fun ys h => ∃ r, FSpec P f (ys ++ caps) r ∧ (match !h || flatT r with | true => K (dmT r) | false => False)
  | false => False

section
variable {P : Program} {X : Nat → Prop} {B : Nat} {W0 : World} {ts : List LV} {H : List Blk} {a : Act} {pl : Nat → Value} {w : World} {T : Tab}

theorem RCs_points {ρ : Ctx} : ∀ (xs : List LV) (cs : List Value), xs.all one1 = true → RCs ρ xs cs → cs.length = xs.length ∧ ∀ (i : Nat) y v, xs[i]? = some y → cs[i]? = some v → RT ρ y v
  | [], cs, _, h => by simp only [RCs] at h; subst h; exact ⟨rfl, fun i y v hy => by simp at hy⟩
  | x :: xs, cs, k, h => by
    simp only [List.all_cons, Bool.and_eq_true] at k
    simp only [RCs] at h
    obtain ⟨c1, c2, rfl, h1, h2⟩ := h
    obtain ⟨k1, k2⟩ := RCs_points xs c2 k.2 h2
    have hl : c1.length = 1 := by
      rw [RC.len _ _ h1]
      have := k.1
      cases x <;> first | rfl | (simp [one1] at this)
    obtain ⟨c, rfl⟩ := List.length_eq_one_iff.1 hl
    refine ⟨by simp [k1], fun i y v hy hv => ?_⟩
    cases i with
    | zero =>
      simp only [List.getElem?_cons_zero, Option.some.injEq, List.cons_append, List.nil_append] at hy hv
      subst hy; subst hv
      have := k.1
      cases x <;> first | (simp [one1] at this; done) | exact h1
    | succ i => exact k2 i y v (by simpa using hy) (by simpa using hv)

theorem lendA_sound (s : Sim X B W0 ⟨ts, H⟩ a w pl) : ∀ (ops : List Operand) (K : List LV → Bool → Prop), lends H (ops.map (ev ts)) K →
    ∃ ys h, K ys h ∧ ys.length = ops.length ∧ ∀ (i : Nat) y v, ys[i]? = some y → (ops.map a.eval)[i]? = some v → RT (pctx (fun _ => False) w) y v ∧ (h = false → RT (pctx (owned X H pl) w) y v)
  | [], K, k => by simp only [List.map_nil, lends] at k; exact ⟨_, _, k, rfl, fun i y v hy => by simp at hy⟩
  | x :: xs, K, k => by
    simp only [List.map_cons, lends] at k
    obtain ⟨y, b, k1, k2, k3⟩ := lend_RT s.good (ev_sound s x) k
    obtain ⟨ys, b', k4, k5, k6⟩ := lendA_sound s xs _ k1
    refine ⟨_, _, k4, by simp [k5], fun i z v hz hv => ?_⟩
    cases i with
    | zero =>
      simp only [List.getElem?_cons_zero, Option.some.injEq, List.map_cons] at hz hv
      subst hz; subst hv
      exact ⟨k2, fun e => k3 (by simp only [Bool.or_eq_false_iff] at e; exact e.1)⟩
    | succ i =>
      have := k6 i z v (by simpa using hz) (by simpa using hv)
      exact ⟨this.1, fun e => this.2 (by simp only [Bool.or_eq_false_iff] at e; exact e.2)⟩

theorem owned_lt (g : Good X B W0 H pl w) {b : Nat} (h : owned X H pl b) : b < w.heap.size := by
  rcases h with h | ⟨id, blk, h1, h2, h3, rfl⟩
  · have := g.xlt b h
    have := g.base
    have := g.below.size
    omega
  · exact ((g.ok id blk h1).hasBk_lt h2 h3).2

theorem op_call {o : Oper} {c : Call} {f : Operand} (ho : o.op = .call c) (hf : c.callee = .value f) (s : Sim X B W0 ⟨ts, H⟩ a w pl) {K : LV → List Blk → Prop}
    (h : match ev ts f with | .clos g caps => callW P H g (c.args.toList.map (ev ts)) caps fun x => K x H | _ => False) : OpRes P o a w X B W0 ts H pl K := by
  have hfv := ev_sound s f
  cases e : ev ts f <;> rw [e] at h <;> try exact h.elim
  rename_i g caps
  rw [e] at hfv
  simp only [RT, RT1, RC] at hfv
  obtain ⟨cv, h1, h2⟩ := hfv
  simp only [List.cons.injEq, and_true] at h1
  simp only [callW] at h
  split at h
  · rename_i hcap
    obtain ⟨hcl, hcp⟩ := RCs_points caps _ hcap h2
    obtain ⟨ys, b, ⟨r, ⟨hcall, hspec⟩, hk⟩, k2, k3⟩ := lendA_sound s c.args.toList _ h
    split at hk
    · rename_i hflag
      have hr : (execOp a.eval o).run P w = .ok (.enter g (c.args.map a.eval ++ cv)) w := by
        simp only [execOp, ho, resolve, hf]
        simp [Deferred.ofValue, h1, invoke, hcall]
      unfold OpRes
      rw [hr]
      have hsz : (c.args.map a.eval ++ cv).size = (ys ++ caps).length := by simp [k2, ← hcl]
      have hargs : ∀ {O : Nat → Prop}, (∀ (i : Nat) y v, ys[i]? = some y → (c.args.toList.map a.eval)[i]? = some v → RT (pctx O w) y v) → ((ctx X H pl w).pure.Le (pctx O w)) →
          ∀ (i : Nat) x v, (ys ++ caps)[i]? = some x → (c.args.map a.eval ++ cv)[i]? = some v → RT (pctx O w) x v := by
        intro O hy hle i x v hx hv
        rw [← Array.getElem?_toList, Array.toList_append, Array.toList_map] at hv
        by_cases hi : i < ys.length
        · rw [List.getElem?_append_left hi] at hx
          rw [List.getElem?_append_left (by simpa [← k2] using hi)] at hv
          exact hy i x v hx hv
        · rw [List.getElem?_append_right (by omega)] at hx
          rw [List.getElem?_append_right (by simp [← k2]; omega)] at hv
          exact RT.mono hle _ _ (hcp _ x v hx (by simpa [← k2] using hv))
      cases b with
      | false =>
        refine (hspec w (owned X H pl) _ (fun b hb => owned_lt s.good hb) hsz (hargs (fun i y v hy hv => (k3 i y v hy hv).2 rfl) ⟨Nat.le_refl _, fun _ _ _ => rfl, fun _ _ h => h, fun _ _ _ h => h, fun _ _ _ _ h => h⟩)).mono ?_
        rintro e' w' ⟨v, rfl, hb, bs, hnd, hrr⟩
        refine ⟨v, rfl, _, H, pl, hk, s.grow hb, RR_dm (ρ := ctx X H pl w') ⟨rfl, fun b hb' => ⟨.inl hb', owned_lt s.good hb'⟩⟩ hrr, ctx_grow hb⟩
      | true =>
        refine (hspec w (fun _ => False) _ (fun b hb => hb.elim) hsz (hargs (fun i y v hy hv => (k3 i y v hy hv).1) (free_le (owned X H pl) w))).mono ?_
        rintro e' w' ⟨v, rfl, hb, bs, hnd, hrr⟩
        exact ⟨v, rfl, _, H, pl, hk, s.grow hb, RR_flat (by simpa using hflag) hrr, ctx_grow hb⟩
    · exact hk.elim
  · exact h.elim

end

structure Env where
  P : Program
  T : Tab
  Z : ZTab
  C : CTab

structure EnvOK (E : Env) : Prop where
  t : TabOK E.P E.T
  z : ZOK E.P E.Z
  m : E.P.follows .mixedOrders = true
  c : COK E.P E.C

/-- A reading, its head written out. -/
def headK (x : LV) (K : LV → Prop) : Prop :=
  match x with
  | .undef => K .undef
  | .int k n => K (.int k n)
  | .bool b => K (.bool b)
  | .str s => K (.str s)
  | .nil => K .nil
  | .sl xs => K (.sl xs)
  | .own e k xs => K (.own e k xs)
  | .st fs => K (.st fs)
  | .tup vs => K (.tup vs)
  | .ref c => K (.ref c)
  | .clos f c => K (.clos f c)
  | .hs i n => K (.hs i n)
  | .hp i n p => K (.hp i n p)

theorem headK_eq (x : LV) (K : LV → Prop) : headK x K = K x := by cases x <;> rfl

/-- A block behind the others, the list written out. -/
def appK : List Blk → Blk → (List Blk → Prop) → Prop
  | [], b, K => K [b]
  | x :: xs, b, K => appK xs b fun r => K (x :: r)
theorem appK_eq : ∀ (H : List Blk) (b : Blk) (K : List Blk → Prop), appK H b K = K (H ++ [b])
  | [], _, _ => rfl
  | x :: xs, b, K => by simp only [appK, appK_eq xs b, List.cons_append]
def setHK : List Blk → Nat → Blk → (List Blk → Prop) → Prop
  | [], _, _, K => K []
  | _ :: xs, 0, b, K => K (b :: xs)
  | x :: xs, n + 1, b, K => setHK xs n b fun r => K (x :: r)
theorem setHK_eq : ∀ (H : List Blk) (d : Nat) (b : Blk) (K : List Blk → Prop), setHK H d b K = K (H.set d b)
  | [], _, _, _ => rfl
  | _ :: _, 0, _, _ => rfl
  | y :: ys, n + 1, b, K => by simp only [setHK, setHK_eq ys n b, List.set_cons_succ]

/-- An operation, told over readings. -/
def opW (E : Env) (o : Oper) (ts : List LV) (H : List Blk) (K : LV → List Blk → Prop) : Prop :=
  match o.op with
  | .move x => K (ev ts x) H
  | .assign x => K (ev ts x) H
  | .pick c x y => match ev ts c with | .bool b => (match b with | true => K (ev ts x) H | false => K (ev ts y) H) | _ => False
  | .extract x i => match ev ts x with | .tup vs => (match vs[i]? with | some y => (match y with | .tup _ => False | _ => K y H) | none => False) | _ => False
  | .unOp op _ x => unW op (ev ts x) fun v => K v H
  | .binOp op t x y _ => binCW E.T E.C op t (ev ts x) (ev ts y) fun v => K v H
  | .box _ x => match okBox (ev ts x) with | true => deepK (ev ts x) fun c => appK H (.box c) fun H' => K (.hp H.length 0 []) H' | false => False
  | .alloc t => match E.Z t with | some z => appK H (.box z) fun H' => K (.hp H.length 0 []) H' | none => False
  | .load t x => loadE E.T H t (ev ts x) fun v => K v H
  | .store t p x => storeE E.T H t (ev ts p) (ev ts x) fun id b => setHK H id b fun H' => K .undef H'
  | .fieldAddr t x f => fieldAddrE E.T H t (ev ts x) f fun v => K v H
  | .indexAddr t x ix => indexAddrW E.T H t (ev ts x) (ev ts ix) fun v => K v H
  | .index t x ix => indexW E.T t (ev ts x) (ev ts ix) fun v => K v H
  | .field t x f => fieldW E.T t (ev ts x) f fun v => K v H
  | .slice t x lo hi none => sliceW E.T t (ev ts x) (lo.map (ev ts)) (hi.map (ev ts)) fun v => K v H
  | .makeSlice t l c => makeW E.T E.Z H t (ev ts l) (ev ts c) K
  | .call ⟨.builtin .max, ⟨[x, y]⟩, _⟩ => maxW (ev ts x) (ev ts y) fun v => K v H
  | .call ⟨.builtin .min, ⟨[x, y]⟩, _⟩ => minW (ev ts x) (ev ts y) fun v => K v H
  | .call ⟨.builtin .len, ⟨[x]⟩, ⟨[t]⟩⟩ => lenW E.T H t (ev ts x) fun v => K v H
  | .call ⟨.value f, args, _⟩ => match ev ts f with | .clos g caps => callW E.P H g (args.toList.map (ev ts)) caps fun x => K x H | _ => False
  | _ => False

theorem opW_sound {E : Env} (hE : EnvOK E) {X : Nat → Prop} {B : Nat} {W0 : World} {ts : List LV} {H : List Blk} {a : Act} {pl : Nat → Value} {w : World} (s : Sim X B W0 ⟨ts, H⟩ a w pl) {o : Oper} {K : LV → List Blk → Prop}
    (h : opW E o ts H K) : OpRes E.P o a w X B W0 ts H pl K := by
  unfold opW at h
  split at h
  · rename_i x e; exact op_move (.inl e) s h
  · rename_i x e; exact op_move (.inr e) s h
  · rename_i c x y e; exact op_pick e s h
  · rename_i x i e; exact op_extract e s h
  · rename_i op t x e; exact op_un e s h
  · rename_i op t x y yt e; exact op_binC hE.t hE.c e s h
  · rename_i t x e; simp only [deepK_eq, appK_eq] at h; exact op_box e s h
  · rename_i t e; simp only [appK_eq] at h; exact op_alloc hE.z e s h
  · rename_i t x e; exact op_load hE.t e s (loadE_W h)
  · rename_i t p x e; simp only [setHK_eq] at h; exact op_store hE.t e s (storeE_W (K := fun H' => K .undef H') h)
  · rename_i t x f e; exact op_fieldAddr hE.t e s (fieldAddrE_W h)
  · rename_i t x i e; exact op_indexAddr hE.t e s h
  · rename_i t x i e; exact op_index hE.t e s h
  · rename_i t x f e; exact op_field hE.t e s h
  · rename_i t x lo hi e; exact op_slice hE.t e s h
  · rename_i t l c e; exact op_make hE.t hE.z e s h
  · rename_i x y ats e; exact op_max e s h
  · rename_i x y ats e; exact op_min e s h
  · rename_i x t e; exact op_len hE.t e s h
  · rename_i f args ats e; exact op_call e rfl s h
  · exact h.elim

/-- Laid into its place, the list written out. -/
def setK : List LV → Nat → LV → (List LV → Prop) → Prop
  | [], _, _, K => K []
  | _ :: ys, 0, x, K => K (x :: ys)
  | y :: ys, n + 1, x, K => setK ys n x fun r => K (y :: r)

theorem setK_eq : ∀ (ts : List LV) (d : Nat) (x : LV) (K : List LV → Prop), setK ts d x K = K (ts.set d x)
  | [], _, _, _ => rfl
  | _ :: _, 0, _, _ => rfl
  | y :: ys, n + 1, x, K => by simp only [setK, setK_eq ys n x, List.set_cons_succ]

def putK (d : Option Tmp) (ts : List LV) (x : LV) (K : List LV → Prop) : Prop :=
  match d with
  | some d => headK x fun y => setK ts d y K
  | none => K ts

theorem putK_eq (o : Oper) (ts : List LV) (x : LV) (K : List LV → Prop) : putK o.dst ts x K = K (Oper.putLV o ts x) := by
  unfold putK Oper.putLV
  cases o.dst with
  | none => rfl
  | some d => simp only [headK_eq, setK_eq]

/-- Both ways of a test. -/
def br (b : Bool) (A C : Prop) : Prop := (b = true → A) ∧ (b = false → C)

def opsW (E : Env) (all : Array Oper) : List Oper → List LV → List Blk → (List LV → List Blk → Prop) → Prop
  | [], ts, H, K => K ts H
  | o :: rest, ts, H, K =>
    match o.guard with
    | none => opW E o ts H fun x H' => putK o.dst ts x fun ts' => opsW E all rest ts' H' K
    | some (j, want) =>
      match (all[j]?).bind (·.dst) with
      | none => False
      | some d => match ts.getD d .undef with
        | .bool b =>
          match want with
          | true => br b (opW E o ts H fun x H' => putK o.dst ts x fun ts' => opsW E all rest ts' H' K) (putK o.dst ts .undef fun ts' => opsW E all rest ts' H K)
          | false => br b (putK o.dst ts .undef fun ts' => opsW E all rest ts' H K) (opW E o ts H fun x H' => putK o.dst ts x fun ts' => opsW E all rest ts' H' K)
        | _ => False

theorem opsW_sound {E : Env} (hE : EnvOK E) {X : Nat → Prop} {B : Nat} {W0 : World} {all : Array Oper} {K : List LV → List Blk → Prop} {Q : Exit → Act → World → Prop}
    (hK : ∀ ts H a w pl, K ts H → Sim X B W0 ⟨ts, H⟩ a w pl → Q .normal a w) : ∀ (l : List Oper) (ts : List LV) (H : List Blk) (a : Act) (w : World) (pl : Nat → Value),
    opsW E all l ts H K → Sim X B W0 ⟨ts, H⟩ a w pl → wpList E.P all Q l a w
  | [], ts, H, a, w, pl, h, s => hK ts H a w pl h s
  | o :: rest, ts, H, a, w, pl, h, s => by
    have go : opW E o ts H (fun x H' => putK o.dst ts x fun ts' => opsW E all rest ts' H' K) → o.wp E.P a w (wpList E.P all Q rest) Q := fun h => by
      refine wp_of_OpRes (opW_sound hE s h) fun x H' a' w' pl' hk hs => ?_
      rw [putK_eq] at hk
      exact opsW_sound hE hK rest _ H' a' w' pl' hk hs
    have skip : putK o.dst ts .undef (fun ts' => opsW E all rest ts' H K) → wpList E.P all Q rest (a.put o.dst undef) w := fun h => by
      rw [putK_eq] at h
      exact opsW_sound hE hK rest _ H _ w pl h (s.putO o (x := .undef) trivial)
    unfold opsW at h
    unfold wpList
    cases hg : o.guard with
    | none =>
      rw [hg] at h
      rw [if_pos (by simp [Region.wanted, hg])]
      exact .inl (go h)
    | some jw =>
      obtain ⟨j, want⟩ := jw
      rw [hg] at h
      simp only at h
      cases hd : (all[j]?).bind (·.dst) with
      | none => rw [hd] at h; exact h.elim
      | some d =>
        rw [hd] at h
        simp only at h
        cases hb : ts.getD d .undef <;> rw [hb] at h <;> try exact h.elim
        rename_i b
        have hv := ev_sound s (.tmp d)
        have e1 : ev ts (.tmp d) = .bool b := hb
        have e0 : ev (St.mk ts H).tmps (.tmp d) = .bool b := hb
        rw [e0] at hv
        have hv' : a.tmps.getD d undef = .bool b := RT_bool hv
        have hy : yielded all a.tmps j = some b := by
          have : a.tmps[d]? = some (.bool b) := by
            rw [Array.getD_eq_getD_getElem?] at hv'
            cases ht : a.tmps[d]? with
            | none => rw [ht] at hv'; simp [undef] at hv'
            | some v => rw [ht] at hv'; simp at hv'; rw [hv']
          simp [yielded, hd, this]
        have hw : Region.wanted o (yielded all a.tmps) = (b == want) := by simp [Region.wanted, hg, hy]
        rw [hw]
        cases want <;> simp only [br] at h <;> cases b <;> first
          | (rw [if_pos (by rfl)]; first | exact .inl (go (h.1 rfl)) | exact .inl (go (h.2 rfl)))
          | (rw [if_neg (by decide)]; first | exact skip (h.1 rfl) | exact skip (h.2 rfl))

end Go.Lg
