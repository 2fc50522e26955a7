/- What each operation of the model does, told over readings: the pure operations, loads and addresses. -/
import Derived.Test.YtbiagkccgijdlaaGreatALgB
import Derived.WalkKit
namespace Go.Lg
variable [GI]
set_option linter.unusedSectionVars false
set_option linter.unusedVariables false
set_option linter.unusedSimpArgs false
open Go.RowKit

inductive TK where
  | int (k : IntKind)
  | bool
  | str
  | slice (e : TypeId)
  | struct (fts : List TypeId) (offs : List Nat)
  | other
  deriving DecidableEq, Inhabited

structure TyI where
  kind : TK
  size : Nat
  bytes : Nat
  deriving DecidableEq, Inhabited

def kindOf : TypeDesc → TK
  | .int k => .int k
  | .bool => .bool
  | .string => .str
  | .slice e => .slice e
  | .struct fs => .struct (fs.toList.map (·.type)) (fs.toList.map (·.offset))
  | _ => .other

def isAggT (d : TypeDesc) : Bool := match d with | .struct _ | .array _ _ => true | _ => false

/-- A type as the program's table has it. -/
structure TyOK (P : Program) (t : TypeId) (i : TyI) : Prop where
  info : ∃ inf, P.info? t = some inf ∧ inf.size = i.size ∧ inf.bytes = i.bytes
  und : ∃ d, P.underlying t = some d ∧ kindOf d = i.kind ∧ (i.kind = .other → isAggT d = false)

def tyOKB (P : Program) (t : TypeId) (i : TyI) : Bool :=
  (match P.info? t with | some inf => inf.size == i.size && inf.bytes == i.bytes | none => false) &&
  (match P.underlying t with | some d => decide (kindOf d = i.kind) && (decide (i.kind ≠ .other) || !isAggT d) | none => false)

theorem tyOK_of_B {P : Program} {t : TypeId} {i : TyI} (h : tyOKB P t i = true) : TyOK P t i := by
  unfold tyOKB at h
  simp only [Bool.and_eq_true] at h
  obtain ⟨h1, h2⟩ := h
  constructor
  · split at h1
    · rename_i inf e; simp only [Bool.and_eq_true, beq_iff_eq] at h1; exact ⟨inf, e, h1.1, h1.2⟩
    · cases h1
  · split at h2
    · rename_i d e
      simp only [Bool.and_eq_true, decide_eq_true_eq, Bool.or_eq_true, Bool.not_eq_true'] at h2
      exact ⟨d, e, h2.1, fun k => h2.2.resolve_left (fun n => n k)⟩
    · cases h2

/-- The types that the code names. -/
abbrev Tab := TypeId → Option TyI
def TabOK (P : Program) (T : Tab) : Prop := ∀ t i, T t = some i → TyOK P t i

theorem run_sizeOf {P : Program} {t : TypeId} {i : TyI} (h : TyOK P t i) (w : World) : (sizeOf t).run P w = .ok i.size w := by
  obtain ⟨inf, h1, h2, _⟩ := h.info
  simp [sizeOf, typeInfo, h1, h2]

theorem kind_struct {d : TypeDesc} {fts : List TypeId} {offs : List Nat} (h : kindOf d = .struct fts offs) : ∃ fs, d = .struct fs ∧ fts = fs.toList.map (·.type) ∧ offs = fs.toList.map (·.offset) := by
  cases d <;> simp [kindOf] at h
  obtain ⟨rfl, rfl⟩ := h
  exact ⟨_, rfl, rfl, rfl⟩
theorem kind_slice {d : TypeDesc} {e : TypeId} (h : kindOf d = .slice e) : d = .slice e := by
  cases d <;> simp [kindOf] at h
  subst h; rfl
theorem kind_str {d : TypeDesc} (h : kindOf d = .str) : d = .string := by
  cases d <;> simp [kindOf] at h
  rfl
theorem kind_bool {d : TypeDesc} (h : kindOf d = .bool) : d = .bool := by
  cases d <;> simp [kindOf] at h
  rfl
theorem kind_int {d : TypeDesc} {k : IntKind} (h : kindOf d = .int k) : d = .int k := by
  cases d <;> simp [kindOf] at h
  subst h; rfl

def isStruct : TK → Bool | .struct _ _ => true | _ => false

theorem run_isAgg {P : Program} {t : TypeId} {i : TyI} (h : TyOK P t i) (w : World) : (isAgg t).run P w = .ok (isStruct i.kind) w := by
  obtain ⟨d, h1, h2, h3⟩ := h.und
  have e : (isAgg t).run P w = .ok (isAggT d) w := by
    cases d <;> simp [isAgg, run_underlying h1, isAggT]
  rw [e]
  congr 1
  rw [← h2]
  rw [← h2] at h3
  cases d <;> first | rfl | exact h3 rfl

/-- Does the reading fit the type? -/
def fitT (i : TyI) (x : LV) : Bool :=
  match x with
  | .st fs => isStruct i.kind && (LV.sizes fs == i.size)
  | .undef | .tup _ | .own _ _ _ => false
  | _ => !isStruct i.kind && (i.size == 1)

theorem run_loadVar {P : Program} {t : TypeId} {i : TyI} (h : TyOK P t i) {w : World} {ρ : Ctx} {x : LV} {es : List Value} (hx : RC ρ x es) (hf : fitT i x = true)
    {ad : Addr} (hc : CellsAt w ad es) : ∃ v, (loadVar t ad).run P w = .ok v w ∧ RT ρ x v ∧ RT1 ρ x v := by
  obtain ⟨b, o, sp⟩ := ad
  obtain ⟨rfl, hc⟩ := hc
  have hadd : ∀ j, (⟨b, o, none⟩ : Addr).add j = ⟨b, o + j, none⟩ := fun j => by
    unfold Addr.add; split
    · rename_i e; subst e; rfl
    · rfl
  have one : ∀ v, es = [v] → (!isStruct i.kind && (i.size == 1)) = true → (loadVar t ⟨b, o, none⟩).run P w = .ok v w := by
    intro v e k
    subst e
    simp only [Bool.and_eq_true, Bool.not_eq_true'] at k
    have := hc 0 v rfl
    simp only [Nat.add_zero] at this
    simp [loadVar, run_isAgg h, k.1, load, Sem.run, this]
  cases x with
  | st fs =>
    simp only [fitT, Bool.and_eq_true, beq_iff_eq] at hf
    have hl : es.length = i.size := by rw [← hf.2]; exact RCs.len _ _ (by simpa [RC] using hx)
    refine ⟨.agg es.toArray, ?_, ⟨es.toArray, rfl, by simpa [RC] using hx⟩, ⟨es.toArray, rfl, by simpa [RC] using hx⟩⟩
    have hr := run_loadCells_list (P := P) w ⟨b, o, none⟩ es (fun j v hv => by rw [hadd]; exact hc j v hv)
    simp [loadVar, run_isAgg h, hf.1, run_sizeOf h, ← hl, hr]
  | undef => simp [fitT] at hf
  | tup vs => simp [fitT] at hf
  | own e k xs => simp [fitT] at hf
  | int k n => have e := hx; simp only [RC] at e; exact ⟨_, one _ e hf, by simp [RT, RT1, RC], by simp [RT1, RC]⟩
  | bool k => have e := hx; simp only [RC] at e; exact ⟨_, one _ e hf, by simp [RT, RT1, RC], by simp [RT1, RC]⟩
  | nil => have e := hx; simp only [RC] at e; exact ⟨_, one _ e hf, by simp [RT, RT1, RC], by simp [RT1, RC]⟩
  | str k => have e := hx; simp only [RC] at e; exact ⟨_, one _ e.1 hf, by simpa [RT, RT1, RC] using e.2, by simpa [RT1, RC] using e.2⟩
  | sl xs =>
    have e := hx; simp only [RC] at e; obtain ⟨a, c, rfl, k⟩ := e
    exact ⟨_, one _ rfl hf, by simp only [RT, RT1]; exact hx, by simp only [RT1]; exact hx⟩
  | ref xs =>
    have e := hx; simp only [RC] at e; obtain ⟨a, c, rfl, k⟩ := e
    exact ⟨_, one _ rfl hf, by simp only [RT, RT1]; exact hx, by simp only [RT1]; exact hx⟩
  | clos f xs =>
    have e := hx; simp only [RC] at e; obtain ⟨a, rfl, k⟩ := e
    exact ⟨_, one _ rfl hf, by simp only [RT, RT1]; exact hx, by simp only [RT1]; exact hx⟩
  | ifc f xs =>
    have e := hx; simp only [RC] at e; obtain ⟨a, rfl, k⟩ := e
    exact ⟨_, one _ rfl hf, by simp only [RT, RT1]; exact hx, by simp only [RT1]; exact hx⟩
  | hs f xs =>
    have e := hx; simp only [RC] at e; obtain ⟨a, rfl, k⟩ := e
    exact ⟨_, one _ rfl hf, by simp only [RT, RT1]; exact hx, by simp only [RT1]; exact hx⟩
  | lit u =>
    have e := hx; simp only [RC] at e; obtain ⟨rfl, k⟩ := e
    exact ⟨_, one _ rfl hf, by simp only [RT, RT1]; exact hx, by simp only [RT1]; exact hx⟩
  | hp f n xs =>
    have e := hx; simp only [RC] at e; obtain ⟨a, rfl, k⟩ := e
    exact ⟨_, one _ rfl hf, by simp only [RT, RT1]; exact hx, by simp only [RT1]; exact hx⟩

/-! ### Operands -/

def constLV : Value → LV
  | .bool b => .bool b
  | .int k n => .int k n
  | .string s => if s.size ≤ maxLen then .str s else .undef
  | .slice none 0 0 => .nil
  | .nilIface => .lit .nilIface
  | _ => .undef

def ev (ts : List LV) : Operand → LV
  | .tmp t => ts.getD t .undef
  | .const v => constLV v
  | .func f => .clos f []
  | _ => .undef

theorem constLV_RT (ρ : Ctx) (v : Value) : RT ρ (constLV v) v := by
  unfold constLV
  split
  · simp [RT, RT1, RC]
  · simp [RT, RT1, RC]
  · split
    · rename_i h; simpa [RT, RT1, RC] using h
    · trivial
  · simp [RT, RT1, RC]
  · simp [RT, RT1, RC, Value.oneCell']
  · trivial

theorem ev_sound {X : Nat → Prop} {B : Nat} {W0 : Orig} {s : St} {a : Act} {w : World} {pl : Nat → PV} (h : Sim X B W0 s a w pl) (x : Operand) : RT (ctx X s.heap pl w) (ev s.tmps x) (a.eval x) := by
  cases x with
  | tmp t =>
    show RT _ (s.tmps.getD t .undef) (a.tmps.getD t undef)
    rw [List.getD_eq_getElem?_getD]
    cases e : s.tmps[t]? with
    | none => trivial
    | some y => exact h.tmps t y e
  | const v => exact constLV_RT _ _
  | global g => trivial
  | func f => simp [ev, Act.eval, RT, RT1, RC, RCs]

theorem Ctx.Le.refl (ρ : Ctx) : ρ.Le ρ := ⟨Nat.le_refl _, fun _ _ _ => rfl, fun _ _ h => h, fun _ _ _ h => h, fun _ _ _ _ h => h⟩

/-! ### The end of an operation -/

/-- What is left of an operation: its reading goes on with K. -/
def OpRes (P : Program) (o : Oper) (a : Act) (w : World) (X : Nat → Prop) (B : Nat) (W0 : Orig) (ts : List LV) (H : List Blk) (pl : Nat → PV) (K : LV → List Blk → Prop) : Prop :=
  match (execOp a.eval o).run P w with
  | .ok (.value v) w' => ∃ x H' pl', K x H' ∧ Sim X B W0 ⟨ts, H'⟩ a w' pl' ∧ RT (ctx X H' pl' w') x v ∧ (ctx X H pl w).Le (ctx X H' pl' w')
  | .ok .skip w' => ∃ H' pl', K .undef H' ∧ Sim X B W0 ⟨ts, H'⟩ a w' pl' ∧ (ctx X H pl w).Le (ctx X H' pl' w')
  | .ok (.enter f args) w' => Calls P f args w' fun e w'' => ∃ v, e = .returned v ∧ ∃ x H' pl', K x H' ∧ Sim X B W0 ⟨ts, H'⟩ a w'' pl' ∧ RT (ctx X H' pl' w'') x v ∧ (ctx X H pl w).Le (ctx X H' pl' w'')
  | _ => False

def Oper.putLV (o : Oper) (ts : List LV) (x : LV) : List LV :=
  match o.dst with
  | some d => ts.set d x
  | none => ts

theorem Sim.putO {X : Nat → Prop} {B : Nat} {W0 : Orig} {ts : List LV} {H : List Blk} {a : Act} {w : World} {pl : Nat → PV} (h : Sim X B W0 ⟨ts, H⟩ a w pl) (o : Oper) {x : LV} {v : Value}
    (hv : RT (ctx X H pl w) x v) : Sim X B W0 ⟨Oper.putLV o ts x, H⟩ (a.put o.dst v) w pl := by
  unfold Oper.putLV
  cases o.dst with
  | none => exact h
  | some d => exact Sim.put h hv

theorem wp_of_OpRes {P : Program} {o : Oper} {a : Act} {w : World} {X : Nat → Prop} {B : Nat} {W0 : Orig} {ts : List LV} {H : List Blk} {pl : Nat → PV} {K : LV → List Blk → Prop}
    {next : Act → World → Prop} {Q : Exit → Act → World → Prop} (h : OpRes P o a w X B W0 ts H pl K)
    (hn : ∀ x H' a' w' pl', K x H' → Sim X B W0 ⟨Oper.putLV o ts x, H'⟩ a' w' pl' → next a' w') : o.wp P a w next Q := by
  unfold OpRes at h
  unfold Oper.wp
  generalize (execOp a.eval o).run P w = r at h
  cases r with
  | halt x w' => exact h.elim
  | ok n w' =>
    cases n with
    | value v => obtain ⟨x, H', pl', h1, h2, h3, _⟩ := h; exact hn x H' _ _ pl' h1 (h2.putO o h3)
    | skip => obtain ⟨H', pl', h1, h2, _⟩ := h; exact hn .undef H' _ _ pl' h1 (h2.putO o (x := .undef) trivial)
    | enter f args =>
      simp only [Oper.upon]
      refine h.mono fun e w'' ⟨v, he, x, H', pl', h1, h2, h3, _⟩ => ?_
      subst he
      exact hn x H' _ _ pl' h1 (h2.putO o h3)
    | _ => exact h.elim

/-- A value that the operation yields in the world that it got. -/
theorem OpRes.pure {P : Program} {o : Oper} {a : Act} {w : World} {X : Nat → Prop} {B : Nat} {W0 : Orig} {ts : List LV} {H : List Blk} {pl : Nat → PV} {K : LV → List Blk → Prop} {x : LV} {v : Value}
    (hs : Sim X B W0 ⟨ts, H⟩ a w pl) (hr : (execOp a.eval o).run P w = .ok (.value v) w) (hk : K x H) (hv : RT (ctx X H pl w) x v) : OpRes P o a w X B W0 ts H pl K := by
  unfold OpRes
  rw [hr]
  exact ⟨x, H, pl, hk, hs, hv, Ctx.Le.refl _⟩

/-- An operation that only reads: the memory is as it was; what is told of it may be told anew. -/
def OpResS (P : Program) (o : Oper) (a : Act) (w : World) (X : Nat → Prop) (B : Nat) (W0 : Orig) (ts : List LV) (H : List Blk) (pl : Nat → PV) (K : LV → List Blk → Prop) : Prop :=
  ∃ v, (execOp a.eval o).run P w = .ok (.value v) w ∧ ∃ x H' pl', K x H' ∧ Sim X B W0 ⟨ts, H'⟩ a w pl' ∧ RT (ctx X H' pl' w) x v ∧ (ctx X H pl w).Le (ctx X H' pl' w)

theorem OpResS.res {P : Program} {o : Oper} {a : Act} {w : World} {X : Nat → Prop} {B : Nat} {W0 : Orig} {ts : List LV} {H : List Blk} {pl : Nat → PV} {K : LV → List Blk → Prop}
    (h : OpResS P o a w X B W0 ts H pl K) : OpRes P o a w X B W0 ts H pl K := by
  obtain ⟨v, hr, h⟩ := h
  unfold OpRes
  rw [hr]
  exact h

theorem OpResS.pure {P : Program} {o : Oper} {a : Act} {w : World} {X : Nat → Prop} {B : Nat} {W0 : Orig} {ts : List LV} {H : List Blk} {pl : Nat → PV} {K : LV → List Blk → Prop} {x : LV} {v : Value}
    (hs : Sim X B W0 ⟨ts, H⟩ a w pl) (hr : (execOp a.eval o).run P w = .ok (.value v) w) (hk : K x H) (hv : RT (ctx X H pl w) x v) : OpResS P o a w X B W0 ts H pl K :=
  ⟨v, hr, x, H, pl, hk, hs, hv, Ctx.Le.refl _⟩

end Go.Lg

