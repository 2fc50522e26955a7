/- Regions whose order is open, in which reads come beside operations that lay blocks: the reads are taken first, the others in each order that may come. -/
import Derived.Test.YtbiagkccgijdlaaGreatALgZH
import Derived.OrdersHeld
namespace Go.Lg
variable [GI]
set_option linter.unusedSectionVars false
set_option linter.unusedVariables false
set_option linter.unusedSimpArgs false
open Go.RowKit

section
variable {P : Program}

/-- Ended well, it has only laid blocks. -/
def GS {α : Type} (P : Program) (s : Sem α) : Prop := ∀ w x w1, s.run P w = .ok x w1 → Below w.heap.size w w1
theorem GS.bind {α β : Type} {s : Sem α} {f : α → Sem β} (h : GS P s) (k : ∀ x, GS P (f x)) : GS P (s >>= f) := by
  intro w x w1 hr
  rw [Sem.run_bind] at hr
  cases h0 : s.run P w with
  | halt a b => rw [h0] at hr; cases hr
  | ok y w2 =>
    rw [h0] at hr
    have h1 := h w y w2 h0
    exact h1.trans ((k y _ _ _ hr).mono h1.size)
theorem GS.of_PS {α : Type} {s : Sem α} (h : PS P s) : GS P s := fun w x w1 hr => by rw [(h w x w1 hr).1]; exact Below.refl _ _
theorem GS.pure {α : Type} (x : α) : GS P (Pure.pure x : Sem α) := GS.of_PS (PS.pure x)
theorem GS.no {α : Type} {s : Sem α} (h : ∀ w x w1, s.run P w ≠ .ok x w1) : GS P s := fun w x w1 k => absurd k (h w x w1)
theorem GS.newObj (o : Obj) : GS P (Go.newObj o) := fun w x w1 h => by
  simp [Go.newObj, Sem.run] at h
  rw [← h.2]
  exact below_alloc w o
theorem PS.zeroValue (t : TypeId) : PS P (Go.zeroValue t) := by
  unfold Go.zeroValue
  refine PS.bind (PS.typeInfo t) fun i => ?_
  split
  · exact PS.pure _
  · first | exact PS.stuck _ | exact PS.unsupported _

theorem GS.newRow (t : TypeId) (cs : Array Value) : GS P (Go.newRow t cs) := by
  unfold Go.newRow
  refine GS.bind (GS.newObj _) fun x => GS.pure _
theorem GS.newVar (t : TypeId) (v : Value) : GS P (Go.newVar t v) := by
  unfold Go.newVar
  exact GS.newRow t _
theorem GS.alloc (t : TypeId) (v : Value) : GS P (Instr.alloc t true v) := by
  have e : Instr.alloc t true v = (do let z ← Go.zeroValue t; Pure.pure (.pointer (some (← Go.newVar t z)))) := by unfold Instr.alloc; cases v <;> rfl
  rw [e]
  exact GS.bind (GS.of_PS (PS.zeroValue t)) fun z => GS.bind (GS.newVar _ _) fun x => GS.pure _
theorem GS.box (t : TypeId) (v : Value) : GS P (Instr.box t v) := by
  unfold Instr.box
  exact GS.bind (GS.newVar _ _) fun x => GS.pure _
theorem PS.asInt' (v : Value) : PS P (Go.asInt v) := by
  unfold Go.asInt
  exact PS.bind (PS.asIntOf _) fun d => PS.pure _
theorem GS.rp {α : Type} (m : String) : GS P (Go.runtimePanic (.error m) : Sem α) := GS.no fun w x w1 h => by
  simp [Go.runtimePanic, Go.goPanic, Sem.run_bind] at h
theorem GS.rpThen {α β : Type} (s : Sem β) (f : β → String) : GS P (s >>= fun y => (Go.runtimePanic (.error (f y)) : Sem α)) := GS.no fun w x w1 h => by
  rw [Sem.run_bind] at h
  cases h0 : s.run P w with
  | halt a b => rw [h0] at h; cases h
  | ok y w2 =>
    rw [h0] at h
    simp [Go.runtimePanic, Go.goPanic, Sem.run_bind] at h
theorem GS.askRoom (n : Nat) : GS P (Go.askRoom n) := fun w x w1 h => by
  rw [run_askRoom] at h; cases h; exact Below.refl _ _
theorem GS.makeSlice (t : TypeId) (l c : Value) : GS P (Instr.makeSlice t l c) := by
  unfold Instr.makeSlice
  repeat' (first
    | exact GS.pure _
    | exact GS.rp _
    | exact GS.rpThen _ _
    | exact GS.of_PS (PS.stuck _)
    | exact GS.of_PS (PS.underlying _)
    | exact GS.of_PS (PS.typeInfo _)
    | exact GS.of_PS (PS.asInt' _)
    | exact GS.of_PS (PS.sizeOf _)
    | exact GS.of_PS (PS.zeroValue _)
    | exact GS.askRoom _
    | exact GS.newRow _ _
    | (refine GS.bind ?_ fun _ => ?_)
    | split
    | dsimp only)
theorem GS.buildSlice (t : TypeId) (n : Nat) (ps : Array (Nat × Value)) : GS P (Instr.buildSlice t n ps) := by
  unfold Instr.buildSlice
  repeat' (first
    | exact GS.pure _
    | exact GS.of_PS (PS.stuck _)
    | exact GS.of_PS (PS.unsupported _)
    | exact GS.of_PS (PS.underlying _)
    | exact GS.of_PS (PS.sizeOf _)
    | exact GS.of_PS (PS.zeroValue _)
    | exact GS.newRow _ _
    | (refine GS.bind ?_ fun _ => ?_)
    | split
    | dsimp only)
end

section
variable {E : Env} {X : Nat → Prop} {B : Nat} {W0 : Orig} {ts : List LV} {H : List Blk} {a : Act} {pl : Nat → PV} {w : World}

/-- Reads that are taken first. -/
def hdB (o : Oper) : Bool := match o.op with
  | .move _ | .assign _ | .load _ _ | .indexAddr _ _ _ | .fieldAddr _ _ _ | .build _ _ | .extract _ _ | .pick _ _ _ | .slice _ _ _ _ _ | .nilCheck _ | .makeInterface _ _ => true
  | .binOp .add _ _ _ _ | .binOp .sub _ _ _ _ | .binOp .mul _ _ _ _ | .call ⟨.builtin .len, _, _⟩ | .call ⟨.builtin .max, _, _⟩ | .call ⟨.builtin .min, _, _⟩ => true
  | _ => false
theorem PS.asAddr {P : Program} (v : Value) : PS P (Go.asAddr v) := by
  unfold Go.asAddr
  split
  · exact PS.pure _
  · refine PS.no fun w x w1 h => ?_
    simp [Go.runtimePanic, Go.goPanic, Sem.run_bind] at h
  · exact PS.stuck _
theorem PS.sliceBound {P : Program} (x : Value) (y : Nat) (c : BoundsCode) : PS P (Instr.sliceBound x y c) := by
  unfold Instr.sliceBound
  refine PS.bind (PS.asIntOf _) fun d => ?_
  obtain ⟨k, i⟩ := d
  dsimp only
  split
  · exact PS.pure _
  · exact PS.no fun w x w1 h => by
      obtain ⟨s, w', e⟩ := run_boundsPanic (P := P) (w := w) (α := Nat) _ _ _ _
      rw [e] at h; cases h
theorem PS.sliceBounds {P : Program} (b : Bool) (n c : Nat) (l h m : Option Value) : PS P (Instr.sliceBounds b n c l h m) := by
  unfold Instr.sliceBounds
  dsimp only
  repeat' (first | exact PS.pure _ | exact PS.stuck _ | exact PS.sliceBound _ _ _ | (refine PS.bind ?_ fun _ => ?_) | split | dsimp only)
theorem PS.slice {P : Program} (t : TypeId) (x : Value) (l h m : Option Value) : PS P (Instr.slice t x l h m) := by
  unfold Instr.slice
  repeat' (first
    | exact PS.pure _
    | exact PS.stuck _
    | exact PS.asAddr _
    | exact PS.underlying _
    | exact PS.sizeOf _
    | exact PS.sliceBounds _ _ _ _ _ _
    | (refine PS.bind ?_ fun _ => ?_)
    | split)
theorem PS.sliceAt {P : Program} (t : TypeId) (x : Value) (l h m : Option Value) : PS P (Instr.sliceAt t x l h m) := by
  unfold Instr.sliceAt
  repeat' (first
    | exact PS.pure _
    | exact PS.stuck _
    | exact PS.sureAddr _
    | exact PS.underlying _
    | exact PS.sizeOf _
    | exact PS.sliceBounds _ _ _ _ _ _
    | exact PS.slice _ _ _ _ _
    | (refine PS.bind ?_ fun _ => ?_)
    | split)
theorem PS_add {o : Oper} {t yt : TypeId} {x y : Operand} (e : o.op = .binOp .add t x y yt) (s : Sim X B W0 ⟨ts, H⟩ a w pl) {K : LV → Prop} (h : binCW E.T E.C .add t (ev ts x) (ev ts y) K) : PS E.P (execOp a.eval o) := by
  have hx := ev_sound s x
  have hy := ev_sound s y
  have hx0 : ev (St.mk ts H).tmps x = ev ts x := rfl
  have hy0 : ev (St.mk ts H).tmps y = ev ts y := rfl
  rw [hx0] at hx
  rw [hy0] at hy
  unfold binCW at h
  split at h
  · unfold eqStW at h
    split at h
    · exact h.elim
    · split at h <;> exact h.elim
  · unfold binW at h
    split at h
    · rename_i k m k' n ex ey
      rw [ex] at hx
      rw [ey] at hy
      have vx := RT_int hx
      have vy := RT_int hy
      simp only [execOp, e, vx, vy, eqGuard, binOp, Op.intArith]
      refine PS.bind (PS.bind (PS.pure _) fun _ => ?_) fun _ => PS.pure _
      split
      · exact PS.stuck _
      · exact PS.pure _
    · rename_i m n ex ey
      rw [ex] at hx
      rw [ey] at hy
      obtain ⟨vx, _⟩ := RT_str hx
      obtain ⟨vy, _⟩ := RT_str hy
      simp only [execOp, e, vx, vy, eqGuard, binOp, Op.stringOp]
      refine PS.bind (PS.bind (PS.pure _) fun _ => ?_) fun _ => PS.pure _
      split
      · exact PS.unsupported _
      · exact PS.pure _
    · split at h
      · split at h <;> first | exact h.elim | (simp at h)
      · exact h.elim
    · exact h.elim
theorem PS_sub {o : Oper} {t yt : TypeId} {x y : Operand} (e : o.op = .binOp .sub t x y yt) (s : Sim X B W0 ⟨ts, H⟩ a w pl) {K : LV → Prop} (h : binCW E.T E.C .sub t (ev ts x) (ev ts y) K) : PS E.P (execOp a.eval o) := by
  have hx := ev_sound s x
  have hy := ev_sound s y
  have hx0 : ev (St.mk ts H).tmps x = ev ts x := rfl
  have hy0 : ev (St.mk ts H).tmps y = ev ts y := rfl
  rw [hx0] at hx
  rw [hy0] at hy
  unfold binCW at h
  split at h
  · unfold eqStW at h
    split at h
    · exact h.elim
    · split at h <;> exact h.elim
  · unfold binW at h
    split at h
    · rename_i k m k' n ex ey
      rw [ex] at hx
      rw [ey] at hy
      have vx := RT_int hx
      have vy := RT_int hy
      simp only [execOp, e, vx, vy, eqGuard, binOp, Op.intArith]
      refine PS.bind (PS.bind (PS.pure _) fun _ => ?_) fun _ => PS.pure _
      split
      · exact PS.stuck _
      · exact PS.pure _
    · rename_i m n ex ey
      rw [ex] at hx
      rw [ey] at hy
      obtain ⟨vx, _⟩ := RT_str hx
      obtain ⟨vy, _⟩ := RT_str hy
      simp only [execOp, e, vx, vy, eqGuard, binOp, Op.stringOp]
      refine PS.bind (PS.bind (PS.pure _) fun _ => ?_) fun _ => PS.pure _
      exact PS.stuck _
    · split at h
      · split at h <;> first | exact h.elim | (simp at h)
      · exact h.elim
    · exact h.elim
theorem PS_mul {o : Oper} {t yt : TypeId} {x y : Operand} (e : o.op = .binOp .mul t x y yt) (s : Sim X B W0 ⟨ts, H⟩ a w pl) {K : LV → Prop} (h : binCW E.T E.C .mul t (ev ts x) (ev ts y) K) : PS E.P (execOp a.eval o) := by
  have hx := ev_sound s x
  have hy := ev_sound s y
  have hx0 : ev (St.mk ts H).tmps x = ev ts x := rfl
  have hy0 : ev (St.mk ts H).tmps y = ev ts y := rfl
  rw [hx0] at hx
  rw [hy0] at hy
  unfold binCW at h
  split at h
  · unfold eqStW at h
    split at h
    · exact h.elim
    · split at h <;> exact h.elim
  · unfold binW at h
    split at h
    · rename_i k m k' n ex ey
      rw [ex] at hx
      rw [ey] at hy
      have vx := RT_int hx
      have vy := RT_int hy
      simp only [execOp, e, vx, vy, eqGuard, binOp, Op.intArith]
      refine PS.bind (PS.bind (PS.pure _) fun _ => ?_) fun _ => PS.pure _
      split
      · exact PS.stuck _
      · exact PS.pure _
    · rename_i m n ex ey
      rw [ex] at hx
      rw [ey] at hy
      obtain ⟨vx, _⟩ := RT_str hx
      obtain ⟨vy, _⟩ := RT_str hy
      simp only [execOp, e, vx, vy, eqGuard, binOp, Op.stringOp]
      refine PS.bind (PS.bind (PS.pure _) fun _ => ?_) fun _ => PS.pure _
      exact PS.stuck _
    · split at h
      · split at h <;> first | exact h.elim | (simp at h)
      · exact h.elim
    · exact h.elim
theorem PS_len (hT : TabOK E.P E.T) {o : Oper} {t : TypeId} {x : Operand} (e : o.op = .call { callee := .builtin .len, args := #[x], argTypes := #[t] }) {v : LV} {K : LV → Prop} (h : lenW E.T H t v K) : PS E.P (execOp a.eval o) := by
  unfold lenW at h
  split at h
  · rename_i sz by' hi
    obtain ⟨d, hd, hd2, _⟩ := (hT t _ hi).und
    obtain rfl := kind_str hd2
    refine PS.congr (s' := match a.eval x with | .string q => Pure.pure (.value (goInt q.size)) | _ => Go.stuck "len: string, array, pointer to array, slice, map or channel expected") (fun w => ?_) ?_
    · cases hx : a.eval x <;> simp [execOp, e, hx, resolve, invoke, builtin, Builtin.len_, run_underlying hd, goInt, Go.stuck]
    · split
      · exact PS.pure _
      · exact PS.stuck _
  · rename_i e' sz by' hi
    obtain ⟨d, hd, hd2, _⟩ := (hT t _ hi).und
    obtain rfl := kind_slice hd2
    refine PS.congr (s' := match a.eval x with | .slice _ n _ => Pure.pure (.value (goInt n)) | _ => Go.stuck "len: string, array, pointer to array, slice, map or channel expected") (fun w => ?_) ?_
    · cases hx : a.eval x <;> simp [execOp, e, hx, resolve, invoke, builtin, Builtin.len_, run_underlying hd, goInt, Go.stuck]
    · split
      · exact PS.pure _
      · exact PS.stuck _
  · exact h.elim

theorem PS_max {o : Oper} {x y : Operand} {ats : Array TypeId} (ho : o.op = .call { callee := .builtin .max, args := #[x, y], argTypes := ats }) (s : Sim X B W0 ⟨ts, H⟩ a w pl) {K : LV → Prop} (h : maxW (ev ts x) (ev ts y) K) : PS E.P (execOp a.eval o) := by
  have hx := ev_sound s x
  have hy := ev_sound s y
  unfold maxW at h
  split at h
  · rename_i k m k' n ex ey
    split at h
    · rename_i hk
      obtain rfl := kc_inj hk
      rw [ex] at hx
      rw [ey] at hy
      have vx := RT_int hx
      have vy := RT_int hy
      have e : ∀ w', (execOp a.eval o).run E.P w' = .ok (.value (.int k (if n > m then n else m))) w' := fun w' => by simp [execOp, ho, vx, vy, resolve, invoke, builtin, Builtin.max_, Builtin.max2]
      intro w0 v w1 hr
      rw [e w0] at hr
      cases hr
      exact ⟨rfl, fun w' => e w'⟩
    · exact h.elim
  · exact h.elim
theorem PS_min {o : Oper} {x y : Operand} {ats : Array TypeId} (ho : o.op = .call { callee := .builtin .min, args := #[x, y], argTypes := ats }) (s : Sim X B W0 ⟨ts, H⟩ a w pl) {K : LV → Prop} (h : minW (ev ts x) (ev ts y) K) : PS E.P (execOp a.eval o) := by
  have hx := ev_sound s x
  have hy := ev_sound s y
  unfold minW at h
  split at h
  · rename_i k m k' n ex ey
    split at h
    · rename_i hk
      obtain rfl := kc_inj hk
      rw [ex] at hx
      rw [ey] at hy
      have vx := RT_int hx
      have vy := RT_int hy
      have e : ∀ w', (execOp a.eval o).run E.P w' = .ok (.value (.int k (if n < m then n else m))) w' := fun w' => by simp [execOp, ho, vx, vy, resolve, invoke, builtin, Builtin.min_, Builtin.min2]
      intro w0 v w1 hr
      rw [e w0] at hr
      cases hr
      exact ⟨rfl, fun w' => e w'⟩
    · exact h.elim
  · exact h.elim

theorem opF_hold (hE : EnvOK E) (s : Sim X B W0 ⟨ts, H⟩ a w pl) {o : Oper} (hr : hdB o = true) {K : LV → List Blk → Prop} (h : opF E o ts H K) :
    ∃ v, StY E.P o v a w ∧ ∃ x H' pl', K x H' ∧ Sim X B W0 ⟨ts, H'⟩ a w pl' ∧ RT (ctx X H' pl' w) x v := by
  have rd : rdB o = true → (∀ v, (execOp a.eval o).run E.P w = .ok (.value v) w → StY E.P o v a w) → ∃ v, StY E.P o v a w ∧ ∃ x H' pl', K x H' ∧ Sim X B W0 ⟨ts, H'⟩ a w pl' ∧ RT (ctx X H' pl' w) x v := fun hrd k => by
    obtain ⟨v, hv, x, H', pl', k1, k2, k3, _⟩ := opF_still hE s hrd h
    exact ⟨v, k v hv, x, H', pl', k1, k2, k3⟩
  have ps : PS E.P (execOp a.eval o) → ∀ v, (execOp a.eval o).run E.P w = .ok (.value v) w → StY E.P o v a w := fun hp v hv w' _ => (hp w _ w hv).2 w'
  unfold hdB at hr
  cases e : o.op <;> rw [e] at hr <;> try (cases hr; done)
  case move x => exact rd (by simp [rdB, e]) (ps (by simp only [execOp, e]; exact PS.pure _))
  case assign x => exact rd (by simp [rdB, e]) (ps (by simp only [execOp, e]; exact PS.pure _))
  case extract x i =>
    refine rd (by simp [rdB, e]) (ps ?_)
    simp only [execOp, e]
    refine PS.bind ?_ fun _ => PS.pure _
    unfold Instr.extract
    repeat' (first | exact PS.pure _ | exact PS.stuck _ | split)
  case pick c x y =>
    refine rd (by simp [rdB, e]) (ps ?_)
    simp only [execOp, e]
    refine PS.bind ?_ fun b => ?_
    · unfold asBool
      repeat' (first | exact PS.pure _ | exact PS.stuck _ | split)
    · split <;> exact PS.pure _
  case load t x =>
    refine rd (by simp [rdB, e]) fun v hv w' hb => ?_
    simp only [execOp, e, Sem.run_bind] at hv ⊢
    cases h0 : (Instr.loadAt t (a.eval x)).run E.P w with
    | halt p q => rw [h0] at hv; cases hv
    | ok u w1 =>
      rw [h0] at hv
      simp only [Result.andThen_ok, Sem.run_pure] at hv
      cases hv
      unfold opF at h
      rw [e] at h
      rw [loadF_stay hE s h h0 w' hb]
      rfl
  case indexAddr t x ix =>
    refine rd (by simp [rdB, e]) (ps ?_)
    simp only [execOp, e]
    exact PS.bind (PS.indexAt _ _ _) fun _ => PS.pure _
  case fieldAddr t x f =>
    refine rd (by simp [rdB, e]) (ps ?_)
    unfold opF at h
    rw [e] at h
    simp only at h
    obtain ⟨H2, p2, K2, h⟩ := fieldAddrF_ex h
    simp only [execOp, e]
    exact PS.bind (PS_fieldAt hE.t h) fun _ => PS.pure _
  case build t parts =>
    unfold opF at h
    rw [e] at h
    obtain ⟨ps⟩ := parts
    simp only [buildF_eq] at h
    obtain ⟨cells, x, h1, h2, h3⟩ := op_buildY hE.t hE.z e s h
    exact ⟨_, fun w' _ => h1 w', x, H, pl, h2, s, h3⟩
  case nilCheck x =>
    unfold opF at h
    rw [e] at h
    simp only [opW, e] at h
    obtain ⟨v, y, h1, h2, h3⟩ := op_nilMH hE.mm e s h
    exact ⟨_, fun w' _ => h1 w', y, H, pl, h2, s, h3⟩
  case makeInterface t x =>
    unfold opF at h
    rw [e] at h
    simp only at h
    obtain ⟨v, y, h1, h2, h3⟩ := op_ifcH hE.t e s h
    exact ⟨_, fun w' _ => h1 w', y, H, pl, h2, s, h3⟩
  case slice t x lo hi mx =>
    refine rd (by simp [rdB, e]) (ps ?_)
    simp only [execOp, e]
    exact PS.bind (PS.sliceAt _ _ _ _ _) fun _ => PS.pure _
  case binOp op t x y yt =>
    cases op <;> try (cases hr; done)
    all_goals
      refine rd (by simp [rdB, e]) (ps ?_)
      unfold opF at h
      rw [e] at h
      simp only [opW, e] at h
      first | exact PS_add e s h | exact PS_sub e s h | exact PS_mul e s h
  case call c =>
    obtain ⟨callee, args, ats⟩ := c
    cases callee <;> try (cases hr; done)
    rename_i bi
    cases bi <;> try (cases hr; done)
    case len =>
      refine rd (by simp [rdB, e]) (ps ?_)
      unfold opF at h
      rw [e] at h
      obtain ⟨al⟩ := args
      obtain ⟨tl⟩ := ats
      match al, tl with
      | [x], [t] => simp only [opW, e] at h; exact PS_len hE.t e h
      | [], _ => simp [opW, e] at h
      | _ :: _ :: _, _ => simp [opW, e] at h
      | [_], [] => simp [opW, e] at h
      | [_], _ :: _ :: _ => simp [opW, e] at h
    case max =>
      refine rd (by simp [rdB, e]) (ps ?_)
      unfold opF at h
      rw [e] at h
      obtain ⟨al⟩ := args
      match al with
      | [x, y] => simp only [opW, e] at h; exact PS_max e s h
      | [] => simp [opW, e] at h
      | [_] => simp [opW, e] at h
      | _ :: _ :: _ :: _ => simp [opW, e] at h
    case min =>
      refine rd (by simp [rdB, e]) (ps ?_)
      unfold opF at h
      rw [e] at h
      obtain ⟨al⟩ := args
      match al with
      | [x, y] => simp only [opW, e] at h; exact PS_min e s h
      | [] => simp [opW, e] at h
      | [_] => simp [opW, e] at h
      | _ :: _ :: _ :: _ => simp [opW, e] at h

/-- The same under its guard. -/
theorem opsF_hold (hE : EnvOK E) {all : Array Oper} (s : Sim X B W0 ⟨ts, H⟩ a w pl) {o : Oper} (hr : hdB o = true) {K : List LV → List Blk → Prop} (h : opsF E all [o] ts H K) :
    ∃ v, YieldsIf E.P all (fun w' => Below w.heap.size w w') o v a ∧ ∃ ts' H' pl', K ts' H' ∧ Sim X B W0 ⟨ts', H'⟩ (a.put o.dst v) w pl' := by
  have go : opF E o ts H (fun x H' => putK o.dst ts x fun ts' => K ts' H') → Region.wanted o (yielded all a.tmps) = true →
      ∃ v, YieldsIf E.P all (fun w' => Below w.heap.size w w') o v a ∧ ∃ ts' H' pl', K ts' H' ∧ Sim X B W0 ⟨ts', H'⟩ (a.put o.dst v) w pl' := fun h hw => by
    obtain ⟨v, hy, x, H', pl', k1, k2, k3⟩ := opF_hold hE s hr h
    rw [putK_eq] at k1
    exact ⟨v, .inl ⟨hw, fun w' hb => hy w' hb⟩, _, H', pl', k1, k2.putO o k3⟩
  have skip : putK o.dst ts (.tup []) (fun ts' => K ts' H) → Region.wanted o (yielded all a.tmps) = false →
      ∃ v, YieldsIf E.P all (fun w' => Below w.heap.size w w') o v a ∧ ∃ ts' H' pl', K ts' H' ∧ Sim X B W0 ⟨ts', H'⟩ (a.put o.dst v) w pl' := fun h hw => by
    rw [putK_eq] at h
    exact ⟨undef, .inr ⟨hw, rfl⟩, _, H, pl, h, s.putO o (x := .tup []) RT_none⟩
  rw [opsF_c] at h
  unfold opsStepF at h
  cases hg : o.guard with
  | none =>
    rw [hg] at h
    exact go h (by simp [Region.wanted, hg])
  | some jw =>
    obtain ⟨j, want⟩ := jw
    rw [hg] at h
    simp only at h
    cases hd : (all[j]?).bind (·.dst) with
    | none => rw [hd] at h; exact h.elim
    | some d =>
      rw [hd] at h
      simp only at h
      cases hb : ts.getD d .undef <;> rw [hb] at h <;> try exact h.elim
      case tup vs =>
        cases vs with
        | cons _ _ => exact h.elim
        | nil => exact skip h (wanted_none s hg hd hb)
      rename_i b
      have hv := ev_sound s (.tmp d)
      have e0 : ev (St.mk ts H).tmps (.tmp d) = .bool b := hb
      rw [e0] at hv
      have hv' : a.tmps.getD d undef = .bool b := RT_bool hv
      have hy : yielded all a.tmps j = some b := by
        have : a.tmps[d]? = some (.bool b) := by
          rw [Array.getD_eq_getD_getElem?] at hv'
          cases ht : a.tmps[d]? with
          | none => rw [ht] at hv'; simp [undef] at hv'
          | some v => rw [ht] at hv'; simp at hv'; rw [hv']
        simp [yielded, hd, this]
      have hw : Region.wanted o (yielded all a.tmps) = (b == want) := by simp [Region.wanted, hg, hy]
      cases want <;> simp only [br] at h <;> cases b <;> first
        | exact go (h.1 rfl) (by rw [hw]; rfl)
        | exact go (h.2 rfl) (by rw [hw]; rfl)
        | exact skip (h.1 rfl) (by rw [hw]; rfl)
        | exact skip (h.2 rfl) (by rw [hw]; rfl)

/-! ### The reads, one after the other -/

def stepX (E : Env) (all : Array Oper) (i : Nat) (ts : List LV) (H : List Blk) (K : List LV → List Blk → Prop) : Prop :=
  match all[i]? with
  | some o => opsStepF E all o opsNil ts H K
  | none => False
def takesW (E : Env) (all : Array Oper) (l : List Nat) : List LV → List Blk → (List LV → List Blk → Prop) → Prop :=
  List.rec (motive := fun _ => List LV → List Blk → (List LV → List Blk → Prop) → Prop) opsNil (fun i _ ih ts H K => stepX E all i ts H fun ts' H' => ih ts' H' K) l
def takesB (all : Array Oper) : List Nat → Array Bool → Bool
  | [], _ => true
  | i :: r, listed => (Region.ready .any all listed).contains i && Region.free .any all listed i && (match all[i]? with | some o => hdB o | none => false) && takesB all r (listed.setIfInBounds i true)
def takesL : List Nat → Array Bool → Array Bool
  | [], listed => listed
  | i :: r, listed => takesL r (listed.setIfInBounds i true)

theorem takes_sound (hE : EnvOK E) {all : Array Oper} (hsel : Region.noSelect all = true) {K : List LV → List Blk → Prop} {Q : Exit → Act → World → Prop} (hQ : ∀ c a w, ¬ Q (.panic c) a w) {fuel : Nat} :
    ∀ (l : List Nat) (listed : Array Bool) (ts : List LV) (H : List Blk) (a : Act) (pl : Nat → PV), takesB all l listed = true → takesW E all l ts H K → Sim X B W0 ⟨ts, H⟩ a w pl →
      (∀ ts' H' a' pl', K ts' H' → Sim X B W0 ⟨ts', H'⟩ a' w pl' → wpAnyH E.P .any all Q (fun w' => Below w.heap.size w w') fuel (takesL l listed) a' w) →
      wpAnyH E.P .any all Q (fun w' => Below w.heap.size w w') (fuel + l.length) listed a w
  | [], listed, ts, H, a, pl, _, h, s, hK => hK ts H a pl h s
  | i :: r, listed, ts, H, a, pl, hb, h, s, hK => by
    simp only [takesB, Bool.and_eq_true] at hb
    obtain ⟨⟨⟨b1, b2⟩, b3⟩, b4⟩ := hb
    have h' : stepX E all i ts H fun ts' H' => takesW E all r ts' H' K := h
    unfold stepX at h'
    cases hi : all[i]? with
    | none => rw [hi] at h'; exact h'.elim
    | some o =>
      rw [hi] at h' b3
      obtain ⟨v, hy, ts', H', pl', k1, k2⟩ := opsF_hold hE s (all := all) b3 (K := fun ts' H' => takesW E all r ts' H' K) h'
      refine wpAnyH_take hi hsel b2 b1 (fun c a w hq => (hQ _ _ _ hq).elim) hy (Below.refl _ _) ?_
      exact takes_sound hE hsel hQ r _ ts' H' _ pl' b4 k1 k2 hK

/-! ### The others, in each order that may come -/

/-- Operations that at most lay blocks. -/
def newB (o : Oper) : Bool := hdB o || (match o.op with | .alloc _ | .buildSlice _ _ _ | .box _ _ | .makeSlice _ _ _ => true | _ => false)
/-- A store into what the region has laid. -/
def stB (D : List Nat) (o : Oper) : Bool := match o.op with | .store _ (.tmp d) _ => memB D d | _ => false
/-- A call by a contract by handles, to which nothing is lent for writing. -/
def hcB (hf : List Nat) (o : Oper) : Bool := (match o.op with | .call ⟨.value (.func g), _, _⟩ => memB hf g | _ => false) && o.guard.isNone
/-- A call of a closure. -/
def ccB (o : Oper) : Bool := (match o.op with | .call ⟨.value (.tmp _), _, _⟩ => true | _ => false) && o.guard.isNone
def tB (hf : List Nat) (D : List Nat) (o : Oper) : Bool := newB o || clB hf o || stB D o || hcB hf o || ccB o
def nextD (D : List Nat) (o : Oper) : List Nat := match o.dst with
  | none => D
  | some d => match o.op, o.guard with
    | .alloc _, none => d :: D
    | _, _ => D.filter fun e => !Nat.beq e d
def FreshT (N : Nat) (D : List Nat) (a : Act) : Prop := ∀ d ∈ D, d < a.tmps.size → ∃ b, a.tmps.getD d undef = .pointer (some ⟨b, 0, none⟩) ∧ N ≤ b

theorem put_size (a : Act) (dst : Option Tmp) (v : Value) : (a.put dst v).tmps.size = a.tmps.size := by cases dst <;> simp [Act.put]
theorem put_other (a : Act) {dst : Option Tmp} (v : Value) {d : Nat} (h : dst ≠ some d) : (a.put dst v).tmps.getD d undef = a.tmps.getD d undef := by
  cases dst with
  | none => rfl
  | some e =>
    have : e ≠ d := fun h' => h (by rw [h'])
    simp [Act.put, Array.getD_eq_getD_getElem?, Array.getElem?_setIfInBounds_ne this]
theorem put_same (a : Act) (v : Value) {d : Nat} (h : d < a.tmps.size) : (a.put (some d) v).tmps.getD d undef = v := by
  simp [Act.put, Array.getD_eq_getD_getElem?, h]
theorem FreshT.put {N : Nat} {D D' : List Nat} {a : Act} (h : FreshT N D a) {dst : Option Tmp} (v : Value) (hs : ∀ d ∈ D', d ∈ D) (hn : ∀ d ∈ D', dst ≠ some d) : FreshT N D' (a.put dst v) := by
  intro d hd hlt
  rw [put_size] at hlt
  obtain ⟨b, h1, h2⟩ := h d (hs d hd) hlt
  exact ⟨b, by rw [put_other a v (hn d hd)]; exact h1, h2⟩
theorem FreshT.next {N : Nat} {D : List Nat} {a : Act} (h : FreshT N D a) {o : Oper} (v : Value) (hv : ∀ t, o.op = .alloc t → o.guard = none → ∃ b, v = .pointer (some ⟨b, 0, none⟩) ∧ N ≤ b) : FreshT N (nextD D o) (a.put o.dst v) := by
  unfold nextD
  cases hd : o.dst with
  | none => exact h.put v (fun _ h => h) (fun d _ => by simp)
  | some d =>
    simp only
    have fl : FreshT N (D.filter fun e => !Nat.beq e d) (a.put (some d) v) := h.put v (fun e he => (List.mem_filter.1 he).1) (fun e he k => by
      have := (List.mem_filter.1 he).2
      cases k
      simp at this)
    split
    · rename_i t e1 e2
      intro e he hlt
      by_cases hed : e = d
      · subst hed
        obtain ⟨b, rfl, hb⟩ := hv t e1 e2
        rw [put_size] at hlt
        exact ⟨b, put_same a _ hlt, hb⟩
      · rcases List.mem_cons.1 he with rfl | he
        · exact absurd rfl hed
        · rw [put_size] at hlt
          obtain ⟨b, h1, h2⟩ := h e he hlt
          exact ⟨b, by rw [put_other a v (fun k => hed (by cases k; rfl))]; exact h1, h2⟩
    · exact fl

def stepT (E : Env) (all : Array Oper) (i : Nat) (ts : List LV) (H : List Blk) (K : List LV → List Blk → Prop) : Prop :=
  match all[i]? with
  | some o => (match o.op with
    | .store _ p _ => (match ev ts p with | .hp _ _ [] => opsStepF E all o opsNil ts H K | _ => False)
    | .call ⟨.value (.func g), _, _⟩ => (match memB E.hf g with | true => callAt E [] o ts H K | false => opsStepF E all o opsNil ts H K)
    | .call ⟨.value (.tmp t), args, _⟩ => (match ev ts (.tmp t) with
      | .clos g caps => (match caps.all cap1 with
        | false => False
        | true => (match memB E.hf g with
          | true => callHi E.P [] H g (args.toList.map (ev ts) ++ caps) fun x H' => putK o.dst ts x fun ts' => K ts' H'
          | false => callW E.P H g (args.toList.map (ev ts) ++ caps) fun x => putK o.dst ts x fun ts' => K ts' H))
      | _ => False)
    | _ => opsStepF E all o opsNil ts H K)
  | none => False
theorem clos_call {P : Program} {o : Oper} {c : Call} {f : Operand} (ho : o.op = .call c) (hf : c.callee = .value f) (s : Sim X B W0 ⟨ts, H⟩ a w pl) {g : FuncId} {caps : List LV} (e : ev ts f = .clos g caps) (hcap : caps.all cap1 = true) :
    ∃ vs : Array Value, (execOp a.eval o).run P w = (callFunc g vs).run P w ∧ vs.size = (c.args.toList.map (ev ts) ++ caps).length ∧
      ∀ (i : Nat) x v, (c.args.toList.map (ev ts) ++ caps)[i]? = some x → vs[i]? = some v → RT (ctx X H pl w) x v := by
  have hfv := ev_sound s f
  have e' : ev (St.mk ts H).tmps f = .clos g caps := e
  rw [e'] at hfv
  simp only [RT, RT1, RC] at hfv
  obtain ⟨cv, h1, h2⟩ := hfv
  simp only [List.cons.injEq, and_true] at h1
  obtain ⟨hcl, hcp⟩ := RCs_points caps _ hcap h2
  have hr0 : (execOp a.eval o).run P w = (callFunc g (c.args.map a.eval ++ cv)).run P w := by
    simp only [execOp, ho, resolve, hf]
    simp [Deferred.ofValue, h1, invoke]
  have hlen : (c.args.map a.eval ++ cv).size = (c.args.toList.map (ev ts) ++ caps).length := by
    have := hcl
    simp only [Array.length_toList] at this
    simp [this]
  refine ⟨_, hr0, hlen, ?_⟩
  intro i x v hx hv
  rw [← Array.getElem?_toList, Array.toList_append, Array.toList_map] at hv
  by_cases hi : i < (c.args.toList.map (ev ts)).length
  · rw [List.getElem?_append_left hi] at hx
    rw [List.getElem?_append_left (by simpa using hi)] at hv
    rw [List.getElem?_map] at hx hv
    cases hq : c.args.toList[i]? with
    | none => rw [hq] at hx; cases hx
    | some q =>
      rw [hq] at hx hv
      cases hx; cases hv
      exact ev_sound s q
  · rw [List.getElem?_append_right (by omega)] at hx
    rw [List.getElem?_append_right (by simpa using hi)] at hv
    exact hcp _ x v hx (by simpa using hv)

theorem alloc_val {P : Program} {t : TypeId} {u v : Value} {w w1 : World} (h : (Instr.alloc t true u).run P w = .ok v w1) : v = .pointer (some ⟨w.heap.size, 0, none⟩) := by
  have e : Instr.alloc t true u = (do let z ← Go.zeroValue t; Pure.pure (.pointer (some (← Go.newVar t z)))) := by unfold Instr.alloc; cases u <;> rfl
  rw [e, Sem.run_bind] at h
  cases h0 : (Go.zeroValue t).run P w with
  | halt a b => rw [h0] at h; cases h
  | ok z w2 =>
    rw [h0] at h
    have := (PS.zeroValue (P := P) t w z w2 h0).1
    subst this
    simp [Go.newVar, Go.newRow, Go.newObj, Sem.run] at h
    exact h.1.symm

/-- Where a store into a variable's whole writes. -/
theorem run_store_box (hT : TabOK E.P E.T) {o : Oper} {t : TypeId} {p x : Operand} (ho : o.op = .store t p x) (s : Sim X B W0 ⟨ts, H⟩ a w pl) {id n : Nat} (e : ev ts p = .hp id n []) {c : LV} (hc : H[id]? = some (.box c))
    {i : TyI} (hi : E.T t = some i) (k2 : fitT i (ev ts x) = true) (k3 : same c (ev ts x) = true) :
    ∃ cs, (execOp a.eval o).run E.P w = .ok .skip (w.setRow (bk (pl id)) cs) ∧ a.eval p = .pointer (some ⟨bk (pl id), 0, none⟩) := by
  have hp := ev_sound s p
  have hx := ev_sound s x
  have hty := hT t i hi
  have e0 : ev (St.mk ts H).tmps p = ev ts p := rfl
  rw [e0, e] at hp
  have ex0 : ev (St.mk ts H).tmps x = ev ts x := rfl
  rw [ex0] at hx
  simp only [RT, RT1, RC] at hp
  obtain ⟨u, h1, h2⟩ := hp
  simp at h1
  have k : okBox (ev ts x) = true := by cases hh : ev ts x <;> rw [hh] at k2 <;> first | rfl | (simp [fitT] at k2)
  have hxc := RT_cells hx k
  have hxs : (a.eval x).cells.size = i.size := by
    have hl := RC.len _ _ hxc
    rw [Array.length_toList] at hl
    rw [hl]
    cases hh : ev ts x <;> rw [hh] at k2 <;> simp [fitT, LV.size] at k2 ⊢ <;> omega
  obtain ⟨b, es, ty, e1, e2, e3, e4⟩ := s.good.ok id _ hc
  have hv := h2.2.2.1 c 0 hc (by cases c <;> rfl)
  rw [e1] at hv
  have hbk : bk (pl id).v = b := by rw [e1]; rfl
  have hl : (a.eval x).cells.toList.length = es.length := by rw [RC.len _ _ hxc, RC.len _ _ e4]; exact same_size _ _ k3
  have hval : a.eval p = .pointer (some ⟨b, 0, none⟩) := by rw [h1, hv]; rfl
  have := run_storeCells_at E.P b 0 ty (a.eval x).cells.toList 0 es.toArray w e3 (by simp [hl]) (RC.one (okCells_ctx X H pl w) _ _ hxc)
  simp only [Nat.add_zero] at this
  refine ⟨(es.toArray.toList.take 0 ++ (a.eval x).cells.toList ++ es.toArray.toList.drop (0 + (a.eval x).cells.toList.length)).toArray, ?_, by rw [hbk]; exact hval⟩
  rw [hbk]
  simp only [execOp, ho, hval, Instr.storeAt, Instr.sureAddr, storeVar]
  simp [run_sizeOf hty, hxs, this]

theorem below_setRow {N : Nat} {w0 w : World} (h : Below N w0 w) {b : Nat} (hb : N ≤ b) (cs : Array Value) : Below N w0 (w.setRow b cs) :=
  ⟨h.os, h.tape, h.output, by have := h.size; simpa [World.setRow] using this, fun k hk => by rw [setRow_other w b k cs (by omega)]; exact h.block k hk, h.inc⟩

theorem FrL_none {W w w' : World} (h : FrL (owned (fun _ => False) (lentH [] H) (inPl [] pl)) w w') (b1 : Below B W w) (b2 : Below B W w') (hi : w.drawn ≤ w'.drawn) : Below w.heap.size w w' :=
  ⟨b2.os.trans b1.os.symm, b2.tape.trans b1.tape.symm, b2.output.trans b1.output.symm, h.1, fun b hb => h.2 b hb fun ho => by
    rcases ho with ho | ⟨id, blk, h1, _⟩
    · exact ho
    · simp [lentH] at h1, hi⟩

theorem stepT_wp (hE : EnvOK E) {all : Array Oper} {i : Nat} {o : Oper} (hi : all[i]? = some o) {D : List Nat} {w0 : World} (hS : Below w0.heap.size w0 w) (hF : FreshT w0.heap.size D a) (ht : tB E.hf D o = true)
    {K : List LV → List Blk → Prop} {Q : Exit → Act → World → Prop} (s : Sim X B W0 ⟨ts, H⟩ a w pl) (h : stepT E all i ts H K) :
    wpOp E.P all Q i (fun a' w' => Below w0.heap.size w0 w' ∧ FreshT w0.heap.size (nextD D o) a' ∧ ∃ ts' H' pl', K ts' H' ∧ Sim X B W0 ⟨ts', H'⟩ a' w' pl') a w := by
  have grow : ∀ {w1 : World}, Below w.heap.size w w1 → Below w0.heap.size w0 w1 := fun hb => hS.trans (hb.mono hS.size)
  have nofresh : (∀ t, o.op ≠ .alloc t) → ∀ v, FreshT w0.heap.size (nextD D o) (a.put o.dst v) := fun hne v => hF.next v fun t e _ => absurd e (hne t)
  by_cases hcb : hcB E.hf o = true
  · unfold stepT at h
    rw [hi] at h
    simp only at h
    unfold hcB at hcb
    simp only [Bool.and_eq_true, Option.isNone_iff_eq_none] at hcb
    obtain ⟨hcb, hg⟩ := hcb
    split at hcb
    rotate_left
    · cases hcb
    rename_i g args ats e
    rw [e] at h
    simp only [hcb] at h
    unfold callAt at h
    rw [e] at h
    have hr0 : (execOp a.eval o).run E.P w = (callFunc g (args.map a.eval)).run E.P w := by
      simp only [execOp, e, resolve]
      simp [Deferred.ofValue, Act.eval, invoke]
    obtain ⟨_, h1, h2⟩ := callHi_stay s (vs := args.map a.eval) (by simp) (fun i x v hx hv => by
      rw [← Array.getElem?_toList, Array.toList_map] at hv
      rw [List.getElem?_map] at hx hv
      cases hq : args.toList[i]? with
      | none => rw [hq] at hx; cases hx
      | some q =>
        rw [hq] at hx hv
        cases hx; cases hv
        exact ev_sound s q) hr0 h
    unfold wpOp
    simp only [hi]
    rw [if_pos (by simp [Region.wanted, hg])]
    refine .inl ?_
    unfold Oper.wp
    rw [h1, Oper.upon_enter]
    refine h2.mono ?_
    rintro e' w'' ⟨v, rfl, hb, x, H', pl', hk, s', hv, hi⟩
    rw [putK_eq] at hk
    exact ⟨grow (FrL_none hb s.good.below s'.good.below hi), nofresh (fun t e' => by rw [e] at e'; cases e') v, _, H', pl', hk, s'.putO o hv⟩
  by_cases hcc : ccB o = true
  · unfold stepT at h
    rw [hi] at h
    simp only at h
    unfold ccB at hcc
    simp only [Bool.and_eq_true, Option.isNone_iff_eq_none] at hcc
    obtain ⟨hcc, hg⟩ := hcc
    split at hcc
    rotate_left
    · cases hcc
    rename_i t args ats e
    rw [e] at h
    simp only at h
    split at h
    rotate_left
    · exact h.elim
    rename_i g caps ec
    split at h
    · exact h.elim
    rename_i hcap
    obtain ⟨vs, hr0, hlen, hrt⟩ := clos_call (P := E.P) e rfl s ec hcap
    unfold wpOp
    simp only [hi]
    rw [if_pos (by simp [Region.wanted, hg])]
    refine .inl ?_
    unfold Oper.wp
    split at h
    · obtain ⟨_, h1, h2⟩ := callHi_stay s hlen hrt hr0 h
      rw [h1, Oper.upon_enter]
      refine h2.mono ?_
      rintro e' w'' ⟨v, rfl, hb, x, H', pl', hk, s', hv, hi⟩
      rw [putK_eq] at hk
      exact ⟨grow (FrL_none hb s.good.below s'.good.below hi), nofresh (fun t e' => by rw [e] at e'; cases e') v, _, H', pl', hk, s'.putO o hv⟩
    · obtain ⟨h1, h2⟩ := callW_stay s hlen hrt hr0 h
      rw [h1, Oper.upon_enter]
      refine h2.mono ?_
      rintro e' w'' ⟨v, rfl, hb, x, hk, s', hv⟩
      rw [putK_eq] at hk
      exact ⟨grow hb, nofresh (fun t e' => by rw [e] at e'; cases e') v, _, H, pl, hk, s'.putO o hv⟩
  have ht : (newB o || clB E.hf o || stB D o) = true := by
    unfold tB at ht
    rw [Bool.not_eq_true] at hcb hcc
    rw [hcc, Bool.or_false, hcb, Bool.or_false] at ht
    exact ht
  have hst : opsStepF E all o opsNil ts H K ∧ (∀ t p x, o.op = .store t p x → ∃ id n, ev ts p = .hp id n []) := by
    unfold stepT at h
    rw [hi] at h
    simp only at h
    split at h
    · rename_i t p x e
      split at h
      · rename_i id n e'
        exact ⟨h, fun t' p' x' e'' => by rw [e] at e''; cases e''; exact ⟨id, n, e'⟩⟩
      · exact h.elim
    · rename_i g args ats e
      split at h
      · rename_i hm
        exfalso
        simp only [Bool.or_eq_true] at ht
        rcases ht with (ht | ht) | ht
        · simp [newB, hdB, e] at ht
        · simp [clB, e, hm] at ht
        · simp [stB, e] at ht
      · exact ⟨h, fun t p x e' => by rw [e] at e'; cases e'⟩
    · rename_i t args ats e
      exfalso
      simp only [Bool.or_eq_true] at ht
      rcases ht with (ht | ht) | ht
      · simp [newB, hdB, e] at ht
      · simp [clB, e] at ht
      · simp [stB, e] at ht
    · rename_i hne _ _
      exact ⟨h, fun t p x e => absurd e (hne t p x)⟩
  obtain ⟨h, hstore⟩ := hst
  have go : opF E o ts H (fun x H' => putK o.dst ts x fun ts' => K ts' H') →
      o.wp E.P a w (fun a' w' => Below w0.heap.size w0 w' ∧ FreshT w0.heap.size (nextD D o) a' ∧ ∃ ts' H' pl', K ts' H' ∧ Sim X B W0 ⟨ts', H'⟩ a' w' pl') Q := fun h => by
    simp only [Bool.or_eq_true] at ht
    rcases ht with (ht | ht) | ht
    · unfold newB at ht
      simp only [Bool.or_eq_true] at ht
      rcases ht with ht | ht
      · obtain ⟨v, hy, x, H', pl', k1, k2, k3⟩ := opF_hold hE s ht h
        rw [putK_eq] at k1
        unfold Oper.wp
        rw [hy w (Below.refl _ _), Oper.upon_value]
        exact ⟨hS, nofresh (fun t e => by simp [hdB, e] at ht) v, _, H', pl', k1, k2.putO o k3⟩
      · have hres := opF_sound hE s h
        unfold OpRes at hres
        have hgs : ∃ sm : Sem Value, GS E.P sm ∧ execOp a.eval o = (do Pure.pure (Next.value (← sm))) ∧ ∀ t, o.op = .alloc t → sm = Instr.alloc t true (.tuple #[]) := by
          cases e : o.op <;> rw [e] at ht <;> try (cases ht; done)
          case alloc t => exact ⟨Instr.alloc t true (.tuple #[]), GS.alloc t _, by simp only [execOp, e], fun t' e' => by cases e'; rfl⟩
          case box t x => exact ⟨Instr.box t (a.eval x), GS.box t _, by simp only [execOp, e], fun t' e' => by cases e'⟩
          case makeSlice t l c => exact ⟨Instr.makeSlice t (a.eval l) (a.eval c), GS.makeSlice t _ _, by simp only [execOp, e], fun t' e' => by cases e'⟩
          case buildSlice t n ps => exact ⟨Instr.buildSlice t n (ps.map fun (i, x) => (i, a.eval x)), GS.buildSlice t n _, by simp only [execOp, e], fun t' e' => by cases e'⟩
        obtain ⟨sm, g1, g2, g3⟩ := hgs
        unfold Oper.wp
        rw [g2, Sem.run_bind] at hres ⊢
        cases h0 : sm.run E.P w with
        | halt x y => rw [h0] at hres; exact hres.elim
        | ok v w1 =>
          rw [h0] at hres
          simp only [Result.andThen_ok, Sem.run_pure] at hres ⊢
          obtain ⟨x, H', pl', k1, k2, k3, _⟩ := hres
          rw [putK_eq] at k1
          rw [Oper.upon_value]
          refine ⟨grow (g1 w v w1 h0), hF.next v fun t e _ => ?_, _, H', pl', k1, k2.putO o k3⟩
          rw [g3 t e] at h0
          exact ⟨_, alloc_val h0, hS.size⟩
    · obtain ⟨_, g, vs, h1, h2⟩ := op_call_stay hE s ht h
      unfold Oper.wp
      rw [h1, Oper.upon_enter]
      refine h2.mono ?_
      rintro e w'' ⟨v, rfl, hb, x, hk, s', hv⟩
      rw [putK_eq] at hk
      exact ⟨grow hb, nofresh (fun t e => by simp [clB, e] at ht) v, _, H, pl, hk, s'.putO o hv⟩
    · unfold stB at ht
      split at ht
      rotate_left
      · cases ht
      rename_i t d x e
      obtain ⟨id, n, ep⟩ := hstore t (.tmp d) x e
      have hres := opF_sound hE s h
      unfold opF at h
      rw [e] at h
      simp only [storeF, ep] at h
      unfold storeE at h
      cases hti : E.T t with
      | none => rw [hti] at h; exact h.elim
      | some ti =>
        rw [hti] at h
        simp only at h
        have hbox : ∃ c, H[id]? = some (.box c) ∧ fitT ti (ev ts x) = true ∧ same c (ev ts x) = true := by
          cases hc : H[id]? with
          | none => rw [hc] at h; exact h.elim
          | some bb =>
            rw [hc] at h
            rcases bb with _ | c | ⟨_ | _, _, _, _⟩ | _ | _ <;> simp only at h <;> try exact h.elim
            · have hg : getP c [] = some c := by cases c <;> rfl
              rw [hg] at h
              simp only at h
              cases hf : fitT ti (ev ts x) with
              | false => rw [hf] at h; exact h.elim
              | true =>
                rw [hf] at h
                simp only at h
                cases hs : same c (ev ts x) with
                | false => rw [hs] at h; exact h.elim
                | true => exact ⟨c, rfl, rfl, hs⟩
            · obtain ⟨_, j, q, y, h1, _⟩ := h
              cases h1
        obtain ⟨c, hc, hf, hsm⟩ := hbox
        obtain ⟨cs, hr, hval⟩ := run_store_box hE.t e s ep hc hti hf hsm
        have hdlt : d < a.tmps.size := by
          rw [s.size]
          show d < ts.length
          rcases Nat.lt_or_ge d ts.length with h' | h'
          · exact h'
          · have : ev ts (.tmp d) = .undef := by show ts.getD d .undef = _; rw [List.getD_eq_getElem?_getD, List.getElem?_eq_none h']; rfl
            rw [this] at ep; cases ep
        have hd : d ∈ D := memB_iff.1 ht
        obtain ⟨b, f1, f2⟩ := hF d hd hdlt
        have hval' : a.tmps.getD d undef = .pointer (some ⟨bk (pl id).v, 0, none⟩) := hval
        rw [f1] at hval'
        have hbb : b = bk (pl id).v := by simpa using hval'
        unfold OpRes at hres
        rw [hr] at hres
        obtain ⟨H', pl', k1, k2, _⟩ := hres
        rw [putK_eq] at k1
        unfold Oper.wp
        rw [hr, Oper.upon_skip]
        exact ⟨below_setRow hS (by rw [← hbb]; exact f2) cs, nofresh (fun t' e' => by rw [e] at e'; cases e') undef, _, H', pl', k1, k2.putO o (x := .undef) (v := undef) trivial⟩
  have skip : putK o.dst ts (.tup []) (fun ts' => K ts' H) → o.guard ≠ none →
      Below w0.heap.size w0 w ∧ FreshT w0.heap.size (nextD D o) (a.put o.dst undef) ∧ ∃ ts' H' pl', K ts' H' ∧ Sim X B W0 ⟨ts', H'⟩ (a.put o.dst undef) w pl' := fun h hg => by
    rw [putK_eq] at h
    exact ⟨hS, hF.next undef fun t _ e => absurd e hg, _, H, pl, h, s.putO o (x := .tup []) RT_none⟩
  unfold wpOp
  simp only [hi]
  unfold opsStepF at h
  cases hg : o.guard with
  | none =>
    rw [hg] at h
    rw [if_pos (by simp [Region.wanted, hg])]
    exact .inl (go h)
  | some jw =>
    obtain ⟨j, want⟩ := jw
    rw [hg] at h
    simp only at h
    have hgn : o.guard ≠ none := by rw [hg]; simp
    cases hd : (all[j]?).bind (·.dst) with
    | none => rw [hd] at h; exact h.elim
    | some d =>
      rw [hd] at h
      simp only at h
      cases hb : ts.getD d .undef <;> rw [hb] at h <;> try exact h.elim
      case tup vs =>
        cases vs with
        | cons _ _ => exact h.elim
        | nil =>
          have hw := wanted_none s hg hd hb
          rw [if_neg (by rw [hw]; decide)]
          exact skip h hgn
      rename_i b
      have hv := ev_sound s (.tmp d)
      have e0 : ev (St.mk ts H).tmps (.tmp d) = .bool b := hb
      rw [e0] at hv
      have hv' : a.tmps.getD d undef = .bool b := RT_bool hv
      have hy : yielded all a.tmps j = some b := by
        have : a.tmps[d]? = some (.bool b) := by
          rw [Array.getD_eq_getD_getElem?] at hv'
          cases ht : a.tmps[d]? with
          | none => rw [ht] at hv'; simp [undef] at hv'
          | some v => rw [ht] at hv'; simp at hv'; rw [hv']
        simp [yielded, hd, this]
      have hw : Region.wanted o (yielded all a.tmps) = (b == want) := by simp [Region.wanted, hg, hy]
      rw [hw]
      cases want <;> simp only [br] at h <;> cases b <;> first
        | (rw [if_pos (by rfl)]; first | exact .inl (go (h.1 rfl)) | exact .inl (go (h.2 rfl)))
        | (rw [if_neg (by decide)]; first | exact skip (h.1 rfl) hgn | exact skip (h.2 rfl) hgn)

/-- Which operations may come next, and what may come behind each. -/
inductive Scr where
  | done
  | one (i : Nat) (s : Scr)
  | alt (i : Nat) (s r : Scr)
def Scr.height : Scr → Nat
  | .done => 0
  | .one _ s => s.height + 1
  | .alt _ s r => Nat.max (s.height + 1) r.height
def scrA (E : Env) (all : Array Oper) (s : Scr) : List LV → List Blk → (List LV → List Blk → Prop) → Prop :=
  Scr.rec (motive := fun _ => List LV → List Blk → (List LV → List Blk → Prop) → Prop) opsNil (fun i _ ih ts H K => stepT E all i ts H fun ts' H' => ih ts' H' K)
    (fun i _ _ ihs ihr ts H K => (stepT E all i ts H fun ts' H' => ihs ts' H' K) ∧ ihr ts H K) s
def scrB (hf : List Nat) (all : Array Oper) : Scr → Array Bool → List Nat → List Nat → Bool
  | .done, listed, _, _ => (Region.ready .any all listed).isEmpty
  | .one i s, listed, D, seen => memB (Region.ready .any all listed) i && (match all[i]? with | some o => tB hf D o && scrB hf all s (listed.setIfInBounds i true) (nextD D o) [] | none => false) && (Region.ready .any all listed).all (fun j => memB (i :: seen) j)
  | .alt i s r, listed, D, seen => memB (Region.ready .any all listed) i && (match all[i]? with | some o => tB hf D o && scrB hf all s (listed.setIfInBounds i true) (nextD D o) [] | none => false) && scrB hf all r listed D (i :: seen)

theorem scr_sound (hE : EnvOK E) {all : Array Oper} {K : List LV → List Blk → Prop} {Q : Exit → Act → World → Prop} {w0 : World} (hK : ∀ ts H a w pl, K ts H → Sim X B W0 ⟨ts, H⟩ a w pl → Q .normal a w) :
    ∀ (s : Scr) (f : Nat) (listed : Array Bool) (D seen : List Nat) (ts : List LV) (H : List Blk) (a : Act) (w : World) (pl : Nat → PV), s.height ≤ f → scrB E.hf all s listed D seen = true → scrA E all s ts H K → Sim X B W0 ⟨ts, H⟩ a w pl →
      Below w0.heap.size w0 w → FreshT w0.heap.size D a →
      (∀ f', f = f' + 1 → ∀ i ∈ Region.ready .any all listed, i ∈ seen ∨ wpOp E.P all Q i (fun a' w' => Below w0.heap.size w0 w' ∧ wpAnyH E.P .any all Q (fun w' => Below w0.heap.size w0 w') f' (listed.setIfInBounds i true) a' w') a w) ∧
      (seen = [] → wpAnyH E.P .any all Q (fun w' => Below w0.heap.size w0 w') f listed a w)
  | .done, f, listed, D, seen, ts, H, a, w, pl, hf, hb, h, s, hS, hF => by
    have hr : Region.ready .any all listed = [] := by simpa [scrB] using hb
    refine ⟨fun f' _ i hi => (by rw [hr] at hi; cases hi), fun _ => wpAnyH_done hr (hK ts H a w pl h s) f⟩
  | .one i sc, f, listed, D, seen, ts, H, a, w, pl, hf, hb, h, s, hS, hF => by
    simp only [scrB, Bool.and_eq_true] at hb
    obtain ⟨⟨hb0, hb1⟩, hb2⟩ := hb
    simp only [Scr.height] at hf
    cases hi : all[i]? with
    | none => rw [hi] at hb1; cases hb1
    | some o =>
      rw [hi] at hb1
      simp only [Bool.and_eq_true] at hb1
      have h' : stepT E all i ts H fun ts' H' => scrA E all sc ts' H' K := h
      have node : ∀ f', f = f' + 1 → ∀ j ∈ Region.ready .any all listed, j ∈ seen ∨ wpOp E.P all Q j (fun a' w' => Below w0.heap.size w0 w' ∧ wpAnyH E.P .any all Q (fun w' => Below w0.heap.size w0 w') f' (listed.setIfInBounds j true) a' w') a w := by
        intro f' hf' j hj
        have hm := memB_iff.1 (List.all_eq_true.1 hb2 j hj)
        rcases List.mem_cons.1 hm with rfl | hm
        · right
          refine wpOp_mono (fun a' w' k => ?_) (stepT_wp hE hi hS hF hb1.1 s h')
          obtain ⟨k1, k2, ts', H', pl', k3, k4⟩ := k
          exact ⟨k1, (scr_sound hE hK sc f' _ _ [] ts' H' a' w' pl' (by omega) hb1.2 k3 k4 k1 k2).2 rfl⟩
        · exact .inl hm
      refine ⟨node, fun hse => ?_⟩
      subst hse
      cases f with
      | zero => omega
      | succ f' =>
        refine ⟨fun hr => ?_, fun j hj => ?_⟩
        · have := memB_iff.1 hb0
          rw [hr] at this
          cases this
        · rcases node f' rfl j hj with hm | hw
          · cases hm
          · exact hw
  | .alt i sc r, f, listed, D, seen, ts, H, a, w, pl, hf, hb, h, s, hS, hF => by
    simp only [scrB, Bool.and_eq_true] at hb
    obtain ⟨⟨hb0, hb1⟩, hb2⟩ := hb
    simp only [Scr.height] at hf
    have hf1 : sc.height + 1 ≤ f := Nat.le_trans (Nat.le_max_left _ _) hf
    have hf2 : r.height ≤ f := Nat.le_trans (Nat.le_max_right _ _) hf
    cases hi : all[i]? with
    | none => rw [hi] at hb1; cases hb1
    | some o =>
      rw [hi] at hb1
      simp only [Bool.and_eq_true] at hb1
      have h' : (stepT E all i ts H fun ts' H' => scrA E all sc ts' H' K) ∧ scrA E all r ts H K := h
      have rest := (scr_sound hE hK r f listed D (i :: seen) ts H a w pl hf2 hb2 h'.2 s hS hF).1
      have node : ∀ f', f = f' + 1 → ∀ j ∈ Region.ready .any all listed, j ∈ seen ∨ wpOp E.P all Q j (fun a' w' => Below w0.heap.size w0 w' ∧ wpAnyH E.P .any all Q (fun w' => Below w0.heap.size w0 w') f' (listed.setIfInBounds j true) a' w') a w := by
        intro f' hf' j hj
        rcases rest f' hf' j hj with hm | hw
        · rcases List.mem_cons.1 hm with rfl | hm
          · right
            refine wpOp_mono (fun a' w' k => ?_) (stepT_wp hE hi hS hF hb1.1 s h'.1)
            obtain ⟨k1, k2, ts', H', pl', k3, k4⟩ := k
            exact ⟨k1, (scr_sound hE hK sc f' _ _ [] ts' H' a' w' pl' (by omega) hb1.2 k3 k4 k1 k2).2 rfl⟩
          · exact .inl hm
        · exact .inr hw
      refine ⟨node, fun hse => ?_⟩
      subst hse
      cases f with
      | zero => omega
      | succ f' =>
        refine ⟨fun hr => ?_, fun j hj => ?_⟩
        · have := memB_iff.1 hb0
          rw [hr] at this
          cases this
        · rcases node f' rfl j hj with hm | hw
          · cases hm
          · exact hw

/-- The reads 'l' first, then the others as 'sc' says. -/
def prB (hf : List Nat) (all : Array Oper) (l : List Nat) (sc : Scr) : Bool :=
  Region.noSelect all && takesB all l (Array.replicate all.size false) && scrB hf all sc (takesL l (Array.replicate all.size false)) [] [] && Nat.ble (sc.height + l.length) all.size

theorem pr_sound (hE : EnvOK E) {all : Array Oper} {l : List Nat} {sc : Scr} (hd : prB E.hf all l sc = true) {Wk : List LV → List Blk → List LV → List Blk → Prop}
    (hW : ∀ ts H ts' H' a w pl, Wk ts H ts' H' → Sim X B W0 ⟨ts, H⟩ a w pl → ∃ pl', Sim X B W0 ⟨ts', H'⟩ a w pl') {K : List LV → List Blk → Prop} {Q : Exit → Act → World → Prop}
    (hK : ∀ ts H a w pl, K ts H → Sim X B W0 ⟨ts, H⟩ a w pl → Q .normal a w) 
    (h : takesW E all l ts H fun ts1 H1 => ∃ tsC HC, scrA E all sc ts1 H1 (fun ts' H' => Wk ts' H' tsC HC) ∧ K tsC HC) (s : Sim X B W0 ⟨ts, H⟩ a w pl) : RgD E.P all Q a w := by
  simp only [prB, Bool.and_eq_true, Nat.ble_eq] at hd
  obtain ⟨⟨⟨h1, h2⟩, h3⟩, h4⟩ := hd
  refine wpAny_post (Q := fun e a w => e = .normal ∧ Q e a w) (fun e a w h => h.2) _ _ _ _ ?_
  have s := s.grow (w' := { w with drawn := w.drawn + 1 }) ⟨rfl, rfl, rfl, Nat.le_refl _, fun _ _ => rfl, Nat.le_succ _⟩
  refine wpAny_of_held (S := fun w' => Below ({ w with drawn := w.drawn + 1 } : World).heap.size { w with drawn := w.drawn + 1 } w') _ _ _ _ ?_
  have e : all.size = (all.size - l.length) + l.length := by omega
  rw [e]
  have hQ : ∀ c a w, ¬ ((fun (e : Exit) (a : Act) (w : World) => e = .normal ∧ Q e a w) (.panic c) a w) := fun c a w h => by cases h.1
  rw [show (all.size - l.length + l.length) = all.size by omega] at e
  refine takes_sound hE h1 hQ (fuel := all.size - l.length) l _ ts H a pl (by rw [show all.size - l.length + l.length = all.size by omega]; exact h2) h s fun ts1 H1 a1 pl1 hk s1 => ?_
  obtain ⟨tsC, HC, k1, k2⟩ := hk
  refine (scr_sound hE (w0 := { w with drawn := w.drawn + 1 }) (K := fun ts' H' => Wk ts' H' tsC HC) (fun ts' H' a' w' pl' hw s' => ?_) sc (all.size - l.length) _ [] [] ts1 H1 a1 _ pl1 (by omega) (by rw [show all.size - l.length + l.length = all.size by omega]; exact h3) k1 s1 (Below.refl _ _) (fun d hd => by cases hd)).2 rfl
  obtain ⟨plC, sC⟩ := hW _ _ _ _ _ _ _ hw s'
  exact ⟨rfl, hK _ _ _ _ _ k2 sC⟩
end
end Go.Lg

