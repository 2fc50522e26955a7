/- The operations on memory, told over readings, and that the model carries them out so. -/
import Derived.Test.YtbiagkccgijdlaaGreatALgF
namespace Go.Lg
variable [GI]
set_option linter.unusedSectionVars false
set_option linter.unusedVariables false
set_option linter.unusedSimpArgs false
open Go.RowKit

/-- Can a reading be laid into cells? -/
def okBox : LV → Bool
  | .undef | .tup _ | .own _ _ _ => false
  | _ => true

theorem RT_cells {X : Nat → Prop} {H : List Blk} {pl : Nat → PV} {w : World} {x : LV} {v : Value} (h : RT (ctx X H pl w) x v) (k : okBox x = true) : RC (ctx X H pl w) x v.cells.toList := by
  cases x <;> simp only [okBox] at k <;> try cases k
  case st fs => obtain ⟨cs, rfl, h2⟩ := h; rw [RC_st]; exact h2
  all_goals
    have h' := h
    simp only [RT, RT1, RC] at h' ⊢
  case int k n => simp at h'; subst h'; rfl
  case bool k => simp at h'; subst h'; rfl
  case str s => obtain ⟨h1, h2⟩ := h'; simp at h1; subst h1; exact ⟨rfl, h2⟩
  case lit u =>
    obtain ⟨h1, h2⟩ := h'; simp at h1; subst h1
    exact ⟨by cases v <;> first | rfl | (simp [Value.oneCell'] at h2), h2⟩
  case nil => simp at h'; subst h'; rfl
  case sl xs => obtain ⟨a, cap, h1, h2⟩ := h'; simp at h1; subst h1; exact ⟨a, cap, rfl, h2⟩
  case ref c => obtain ⟨a, es, h1, h2⟩ := h'; simp at h1; subst h1; exact ⟨a, es, rfl, h2⟩
  case clos f c => obtain ⟨vs, h1, h2⟩ := h'; simp at h1; subst h1; exact ⟨vs, rfl, h2⟩
  case ifc f c => obtain ⟨vs, h1, h2⟩ := h'; simp at h1; subst h1; exact ⟨vs, rfl, h2⟩
  case hs id n =>
    obtain ⟨u, h1, h2⟩ := h'; simp at h1; subst h1
    obtain ⟨l, ⟨a, b, c, rfl⟩, h4⟩ := h2
    exact ⟨_, rfl, l, ⟨a, b, c, rfl⟩, h4⟩
  case hp id n p =>
    obtain ⟨u, h1, h2⟩ := h'; simp at h1; subst h1
    obtain ⟨l, ⟨a, rfl⟩ | ⟨a, rfl⟩, h4⟩ := h2
    · exact ⟨_, rfl, l, .inl ⟨a, rfl⟩, h4⟩
    · exact ⟨_, rfl, l, .inr ⟨a, rfl⟩, h4⟩

/-- A reading's cells are single cells. -/
def okCells (ρ : Ctx) : Prop := (∀ id n v, ρ.hs id n v → v.oneCell' = true) ∧ (∀ id n p v, ρ.hp id n p v → v.oneCell' = true)
theorem okCells_ctx (X : Nat → Prop) (H : List Blk) (pl : Nat → PV) (w : World) : okCells (ctx X H pl w) :=
  ⟨fun _ _ _ h => by obtain ⟨_, ⟨_, _, _, rfl⟩, _⟩ := h; rfl, fun _ _ _ _ h => by obtain ⟨_, ⟨_, rfl⟩ | ⟨_, rfl⟩, _⟩ := h <;> rfl⟩

mutual
theorem RC.one {ρ : Ctx} (ok : okCells ρ) : ∀ (x : LV) (cs : List Value), RC ρ x cs → ∀ v ∈ cs, v.oneCell' = true
  | .undef, _, h => by simp only [RC] at h; obtain ⟨v, h, k⟩ := h; subst h; simpa using k
  | .int k n, _, h => by simp only [RC] at h; subst h; simp [Value.oneCell']
  | .bool b, _, h => by simp only [RC] at h; subst h; simp [Value.oneCell']
  | .lit b, _, h => by simp only [RC] at h; rw [h.1]; simpa using h.2
  | .str s, _, h => by simp only [RC] at h; rw [h.1]; simp [Value.oneCell']
  | .nil, _, h => by simp only [RC] at h; subst h; simp [Value.oneCell']
  | .sl xs, _, h => by simp only [RC] at h; obtain ⟨a, c, h, _⟩ := h; subst h; simp [Value.oneCell']
  | .own _ _ _, _, h => by simp [RC] at h
  | .st fs, cs, h => by simp only [RC] at h; exact RCs.one ok fs cs h
  | .tup _, _, h => by simp [RC] at h
  | .ref c, _, h => by simp only [RC] at h; obtain ⟨a, c, h, _⟩ := h; subst h; simp [Value.oneCell']
  | .clos f caps, _, h => by simp only [RC] at h; obtain ⟨vs, h, _⟩ := h; subst h; simp [Value.oneCell']
  | .ifc f caps, _, h => by simp only [RC] at h; obtain ⟨vs, h, _⟩ := h; subst h; simp [Value.oneCell']
  | .hs id n, _, h => by simp only [RC] at h; obtain ⟨v, h, k⟩ := h; subst h; simpa using ok.1 _ _ _ k
  | .hp id n p, _, h => by simp only [RC] at h; obtain ⟨v, h, k⟩ := h; subst h; simpa using ok.2 _ _ _ _ k
theorem RCs.one {ρ : Ctx} (ok : okCells ρ) : ∀ (xs : List LV) (cs : List Value), RCs ρ xs cs → ∀ v ∈ cs, v.oneCell' = true
  | [], _, h => by simp only [RCs] at h; subst h; simp
  | x :: xs, _, h => by
    simp only [RCs] at h
    obtain ⟨c1, c2, rfl, h1, h2⟩ := h
    intro v hv
    rcases List.mem_append.1 hv with hv | hv
    · exact RC.one ok x c1 h1 v hv
    · exact RCs.one ok xs c2 h2 v hv
end

/- What a fresh variable of a type reads: given with the type, and held against the program's table. -/
mutual
def litIn : LV → List Value → Option (List Value)
  | .int k n, .int k' n' :: r => if k = k' ∧ n = n' then some r else none
  | .bool b, .bool b' :: r => if b = b' then some r else none
  | .str s, .string s' :: r => if s.size = 0 ∧ s'.size = 0 then some r else none
  | .nil, .slice none 0 0 :: r => some r
  | .st fs, cs => litsIn fs cs
  | .undef, c :: r => if c.oneCell' = true then some r else none
  | _, _ => none
def litsIn : List LV → List Value → Option (List Value)
  | [], cs => some cs
  | x :: xs, cs => (litIn x cs).bind (litsIn xs ·)
end

theorem empty_of_size {s s' : ByteArray} (h : s.size = 0) (k : s'.size = 0) : s' = s := by
  obtain ⟨⟨l⟩⟩ := s
  obtain ⟨⟨l'⟩⟩ := s'
  cases l with
  | nil => cases l' with
    | nil => rfl
    | cons x xs => simp [ByteArray.size] at k
  | cons x xs => simp [ByteArray.size] at h

mutual
theorem litIn_RC {ρ : Ctx} : ∀ (x : LV) (cs r : List Value), litIn x cs = some r → ∃ c1, cs = c1 ++ r ∧ RC ρ x c1
  | .int k n, cs, r, h => by
    cases cs with
    | nil => simp [litIn] at h
    | cons c cs =>
      cases c <;> simp only [litIn] at h <;> try cases h
      split at h
      · rename_i e; cases h; obtain ⟨rfl, rfl⟩ := e; exact ⟨[_], rfl, by simp only [RC]⟩
      · cases h
  | .bool b, cs, r, h => by
    cases cs with
    | nil => simp [litIn] at h
    | cons c cs =>
      cases c <;> simp only [litIn] at h <;> try cases h
      split at h
      · rename_i e; cases h; subst e; exact ⟨[_], rfl, by simp only [RC]⟩
      · cases h
  | .str s, cs, r, h => by
    cases cs with
    | nil => simp [litIn] at h
    | cons c cs =>
      cases c <;> simp only [litIn] at h <;> try cases h
      split at h
      · rename_i e; cases h; obtain rfl := empty_of_size e.1 e.2; exact ⟨[_], rfl, by simp [RC, e.1]⟩
      · cases h
  | .nil, cs, r, h => by
    unfold litIn at h
    split at h <;> first
      | (cases h; done)
      | skip
    all_goals first
      | (rename_i e1 e2; cases e1; done)
      | skip
    all_goals first
      | (cases h; exact ⟨[_], rfl, by simp only [RC]⟩)
      | (simp_all)
  | .st fs, cs, r, h => by
    simp only [litIn] at h
    obtain ⟨c1, e, k⟩ := litsIn_RC (ρ := ρ) fs cs r h
    exact ⟨c1, e, by simpa only [RC] using k⟩
  | .undef, cs, r, h => by
    cases cs with
    | nil => simp [litIn] at h
    | cons c cs =>
      simp only [litIn] at h
      split at h
      · rename_i e; cases h; exact ⟨[_], rfl, by simp only [RC]; exact ⟨_, rfl, e⟩⟩
      · cases h
  | .sl _, cs, r, h => by simp [litIn] at h
  | .lit _, cs, r, h => by simp [litIn] at h
  | .own _ _ _, cs, r, h => by simp [litIn] at h
  | .tup _, cs, r, h => by simp [litIn] at h
  | .ref _, cs, r, h => by simp [litIn] at h
  | .clos _ _, cs, r, h => by simp [litIn] at h
  | .ifc _ _, cs, r, h => by simp [litIn] at h
  | .hs _ _, cs, r, h => by simp [litIn] at h
  | .hp _ _ _, cs, r, h => by simp [litIn] at h
theorem litsIn_RC {ρ : Ctx} : ∀ (xs : List LV) (cs r : List Value), litsIn xs cs = some r → ∃ c1, cs = c1 ++ r ∧ RCs ρ xs c1
  | [], cs, r, h => by simp only [litsIn] at h; cases h; exact ⟨[], rfl, by simp only [RCs]⟩
  | x :: xs, cs, r, h => by
    simp only [litsIn, Option.bind_eq_some_iff] at h
    obtain ⟨m, h1, h2⟩ := h
    obtain ⟨c1, rfl, k1⟩ := litIn_RC (ρ := ρ) x cs m h1
    obtain ⟨c2, rfl, k2⟩ := litsIn_RC (ρ := ρ) xs m r h2
    exact ⟨c1 ++ c2, by simp, by simp only [RCs]; exact ⟨c1, c2, rfl, k1, k2⟩⟩
end

abbrev ZTab := TypeId → Option LV
def ZOK (P : Program) (Z : ZTab) : Prop := ∀ t z, Z t = some z → ∃ inf zv, P.info? t = some inf ∧ inf.zero = some zv ∧ litIn z zv.cells.toList = some []

def loadW (T : Tab) (H : List Blk) (t : TypeId) (p : LV) (K : LV → Prop) : Prop :=
  match T t with
  | none => False
  | some i => match p with
    | .ref c => match fitT i c with | true => K c | false => False
    | .hp id n path => match H[id]? with
      | some (.box c) => ∃ x, getP c path = some x ∧ fitT i x = true ∧ K x
      | some (.arr _ _ xs) => n = xs.length ∧ path ≠ [] ∧ ∃ x, getP (.st xs) path = some x ∧ fitT i x = true ∧ K x
      | some (.tree _ _ xs) => n = xs.length ∧ path ≠ [] ∧ ∃ x, getP (.st xs) path = some x ∧ noOwn x = true ∧ fitT i x = true ∧ K x
      | _ => False
    | _ => False

/-- A cell that leads into nothing that may be written. -/
def atomP : LV → Bool
  | .hs _ _ | .hp _ _ _ | .st _ | .clos _ _ | .ifc _ _ => false
  | _ => true
def isPure : LV → Bool
  | .clos _ [] => true
  | .hs _ _ | .hp _ _ _ | .undef | .tup _ | .own _ _ _ | .clos _ _ => false
  | .ifc _ gs => gs.all atomP
  | .st fs => fs.all fun x => match x with | .clos _ [] => true | .hs _ _ | .hp _ _ _ | .st _ | .clos _ _ => false | .ifc _ gs => gs.all atomP | _ => true
  | _ => true

def storeW (T : Tab) (H : List Blk) (t : TypeId) (p x : LV) (K : List Blk → Prop) : Prop :=
  match T t with
  | none => False
  | some i => match p with
    | .hp id n path => match H[id]? with
      | some (.box c) => ∃ y, getP c path = some y ∧ fitT i x = true ∧ same y x = true ∧ K (H.set id (.box (setP c path x)))
      | some (.arr e k xs) => n = xs.length ∧ ∃ j q y, path = j :: q ∧ getP (.st xs) path = some y ∧ fitT i x = true ∧ isPure x = true ∧ same y x = true ∧
          K (H.set id (.arr e k (match xs[j]? with | some z => xs.set j (setP z q x) | none => xs)))
      | _ => False
    | _ => False

def fieldAddrW (T : Tab) (H : List Blk) (t : TypeId) (p : LV) (f : Nat) (K : LV → Prop) : Prop :=
  match T t with
  | some ⟨.struct fts offs, _, _⟩ => match fts[f]?, offs[f]? with
    | some ft, some off => (match T ft with | some fi => fi.size ≠ 0 | none => False) ∧ (match p with
      | .ref (.st fs) => LV.sizes (fs.take f) = off ∧ ∃ x, fs[f]? = some x ∧ K (.ref x)
      | .hp id n path => match H[id]? with
        | some (.box c) => ∃ fs, getP c path = some (.st fs) ∧ LV.sizes (fs.take f) = off ∧ f < fs.length ∧ K (.hp id n (path ++ [f]))
        | some (.row _ _ _ xs) => n = xs.length ∧ path ≠ [] ∧ ∃ fs, getP (.st xs) path = some (.st fs) ∧ LV.sizes (fs.take f) = off ∧ f < fs.length ∧ K (.hp id n (path ++ [f]))
        | _ => False
      | _ => False)
    | _, _ => False
  | _ => False

def indexAddrW (T : Tab) (H : List Blk) (t : TypeId) (p ix : LV) (K : LV → Prop) : Prop :=
  match T t with
  | some ⟨.slice e, _, _⟩ => match T e with
    | some ei => match ix with
      | .int _ i => match p with
        | .sl xs => ∃ (j : Nat) (x : LV), i = (j : Int) ∧ xs[j]? = some x ∧ x.size = ei.size ∧ K (.ref x)
        | .hs id n => match H[id]? with
          | some (.row _ _ k xs) => n = xs.length ∧ k = ei.size ∧ ∃ j : Nat, i = (j : Int) ∧ j < xs.length ∧ K (.hp id n [j])
          | _ => False
        | _ => False
      | _ => False
    | none => False
  | _ => False

def indexW (T : Tab) (t : TypeId) (p ix : LV) (K : LV → Prop) : Prop :=
  match T t with
  | some ⟨.str, _, _⟩ => match p, ix with
    | .str s, .int _ i => ∃ (j : Nat) (h : j < s.size), i = (j : Int) ∧ K (.int .u8 (s[j].toNat : Int))
    | _, _ => False
  | _ => False

def fieldW (T : Tab) (t : TypeId) (p : LV) (f : Nat) (K : LV → Prop) : Prop :=
  match T t with
  | some ⟨.struct fts offs, _, _⟩ => match fts[f]?, offs[f]? with
    | some ft, some off => match T ft with
      | some fi => match p with
        | .st fs => LV.sizes (fs.take f) = off ∧ ∃ x, fs[f]? = some x ∧ fitT fi x = true ∧ K x
        | _ => False
      | none => False
    | _, _ => False
  | _ => False

def lenW (T : Tab) (H : List Blk) (t : TypeId) (x : LV) (K : LV → Prop) : Prop :=
  match T t with
  | some ⟨.str, _, _⟩ => match x with
    | .str s => s.size ≤ maxLen → K (.int .i64 (s.size : Int))
    | _ => False
  | some ⟨.slice _, _, _⟩ => match x with
    | .nil => K (.int .i64 0)
    | .sl xs => xs.length ≤ maxLen → K (.int .i64 (xs.length : Int))
    | .hs id n => match H[id]? with
      | some (.row _ _ _ xs) => n = xs.length ∧ (xs.length ≤ maxLen → K (.int .i64 (xs.length : Int)))
      | _ => False
    | _ => False
  | _ => False

section
variable {P : Program} {X : Nat → Prop} {B : Nat} {W0 : Orig} {ts : List LV} {H : List Blk} {a : Act} {pl : Nat → PV} {w : World} {T : Tab}

theorem below_alloc (w : World) (o : Obj) : Below w.heap.size w (w.alloc o) := (Below.refl _ _).alloc (Nat.le_refl _) o

theorem sim_newBox (s : Sim X B W0 ⟨ts, H⟩ a w pl) {x : LV} {cs : Array Value} (t : TypeId) (hx : RC (ctx X H pl w) x cs.toList) :
    ∃ pl', Sim X B W0 ⟨ts, H ++ [.box x]⟩ a (w.alloc (.cells cs t)) pl' ∧ RT (ctx X (H ++ [.box x]) pl' (w.alloc (.cells cs t))) (.hp H.length 0 []) (.pointer (some ⟨w.heap.size, 0, none⟩)) ∧ (ctx X H pl w).Le (ctx X (H ++ [.box x]) pl' (w.alloc (.cells cs t))) := by
  have hb := below_alloc w (.cells cs t)
  have hu : ∀ b ∈ (Blk.box x).feet ⟨.pointer (some ⟨w.heap.size, 0, none⟩), []⟩, w.heap.size ≤ b := feet_new fun _ => Nat.le_refl _
  have hle := ctx_push s.good hb (u := ⟨.pointer (some ⟨w.heap.size, 0, none⟩), []⟩) (blk := .box x) hu
  refine ⟨_, Sim.push s hb hu (feet_nodup _) ⟨w.heap.size, cs.toList, t, rfl, ?_, ?_, RC.mono hle _ _ hx⟩, ?_, hle⟩
  · exact s.good.base'.1
  · show (w.alloc (.cells cs t)).heap[w.heap.size]? = _
    simpa using heap_alloc_new w (.cells cs t)
  · simp only [RT, RT1, RC]
    refine ⟨_, rfl, by simp, .inl ⟨_, rfl⟩, ?_, ?_, ?_⟩
    · intro c o hc ho
      rw [push_new] at hc
      cases hc
      have : o = 0 := by cases x <;> simpa [offP] using ho.symm
      subst this
      rw [upd_same]
      rfl
    · intro b xs o hc hr; rw [push_new] at hc; cases hc; exact hr.elim
    · intro s' hc q; rw [push_new] at hc; cases hc; exact q.elim

theorem sim_newBld (s : Sim X B W0 ⟨ts, H⟩ a w pl) (t e : TypeId) :
    ∃ pl', Sim X B W0 ⟨ts, H ++ [.bld t e false []]⟩ a (w.alloc (.cells #[.pointer none, .slice none 0 0] t)) pl' ∧ RT (ctx X (H ++ [.bld t e false []]) pl' (w.alloc (.cells #[.pointer none, .slice none 0 0] t))) (.hp H.length 0 []) (.pointer (some ⟨w.heap.size, 0, none⟩)) ∧
      (ctx X H pl w).Le (ctx X (H ++ [.bld t e false []]) pl' (w.alloc (.cells #[.pointer none, .slice none 0 0] t))) := by
  have hb := below_alloc w (.cells #[.pointer none, .slice none 0 0] t)
  have hu : ∀ b ∈ (Blk.bld t e false []).feet ⟨.pointer (some ⟨w.heap.size, 0, none⟩), []⟩, w.heap.size ≤ b := fun b hb => by
    simp only [Blk.feet, List.append_nil] at hb
    obtain ⟨_, hb⟩ := mem_feet.1 hb
    rw [← hb]; exact Nat.le_refl _
  have hle := ctx_push s.good hb (u := ⟨.pointer (some ⟨w.heap.size, 0, none⟩), []⟩) (blk := .bld t e false []) hu
  refine ⟨_, Sim.push s hb hu (by simp only [Blk.feet, List.append_nil]; exact feet_nodup _) ⟨w.heap.size, .slice none 0 0, rfl, s.good.base'.1, ?_, World.ownsRow_nil _ _ _ _, rfl⟩, ?_, hle⟩
  · show (w.alloc (.cells #[.pointer none, .slice none 0 0] t)).heap[w.heap.size]? = _
    simpa using heap_alloc_new w (.cells #[.pointer none, .slice none 0 0] t)
  · simp only [RT, RT1, RC]
    refine ⟨_, rfl, by simp, .inl ⟨_, rfl⟩, ?_, ?_, ?_⟩
    · intro c o hc ho; rw [push_new] at hc; cases hc
    · intro b xs o hc hr; rw [push_new] at hc; cases hc; exact hr.elim
    · intro s' hc q; rw [push_new] at hc; cases hc; rw [upd_same]

/-- The types of builders, each with the type of its bytes. -/
def bdOf : List (Nat × Nat) → Nat → Option Nat
  | [], _ => none
  | (k, e) :: r, t => match Nat.beq k t with | true => some e | false => bdOf r t
def BdOK (P : Program) (bd : List (Nat × Nat)) : Prop := ∀ t e, bdOf bd t = some e → ∃ inf zv, P.info? t = some inf ∧ inf.zero = some zv ∧ zv.cells = #[.pointer none, .slice none 0 0]

theorem op_allocB {bd : List (Nat × Nat)} (hB : BdOK P bd) {o : Oper} {t : TypeId} (ho : o.op = .alloc t) (s : Sim X B W0 ⟨ts, H⟩ a w pl) {K : LV → List Blk → Prop}
    (h : match bdOf bd t with | some e => K (.hp H.length 0 []) (H ++ [.bld t e false []]) | none => False) : OpRes P o a w X B W0 ts H pl K := by
  split at h
  · rename_i e he
    obtain ⟨inf, zv, h1, h2, h3⟩ := hB t e he
    obtain ⟨pl', h4, h5, hl⟩ := sim_newBld s t e
    unfold OpRes
    have hr : (execOp a.eval o).run P w = .ok (.value (.pointer (some ⟨w.heap.size, 0, none⟩))) (w.alloc (.cells #[.pointer none, .slice none 0 0] t)) := by
      simp [execOp, ho, Instr.alloc, zeroValue, typeInfo, h1, h2, h3, newVar, newRow, newObj, Sem.run]
    rw [hr]
    exact ⟨_, _, pl', h, h4, h5, hl⟩
  · exact h.elim

theorem op_box {o : Oper} {t : TypeId} {x : Operand} (ho : o.op = .box t x) (s : Sim X B W0 ⟨ts, H⟩ a w pl) {K : LV → List Blk → Prop}
    (h : match okBox (ev ts x) with | true => K (.hp H.length 0 []) (H ++ [.box (ev ts x)]) | false => False) : OpRes P o a w X B W0 ts H pl K := by
  split at h
  · rename_i k
    have hc := RT_cells (ev_sound s x) k
    obtain ⟨pl', h1, h2, hl⟩ := sim_newBox s t hc
    unfold OpRes
    have hr : (execOp a.eval o).run P w = .ok (.value (.pointer (some ⟨w.heap.size, 0, none⟩))) (w.alloc (.cells (a.eval x).cells t)) := by
      simp [execOp, ho, Instr.box, newVar, newRow, newObj, Sem.run]
    rw [hr]
    exact ⟨_, _, pl', h, h1, h2, hl⟩
  · exact h.elim

theorem op_alloc {Z : ZTab} (hZ : ZOK P Z) {o : Oper} {t : TypeId} (ho : o.op = .alloc t) (s : Sim X B W0 ⟨ts, H⟩ a w pl) {K : LV → List Blk → Prop}
    (h : match Z t with | some z => K (.hp H.length 0 []) (H ++ [.box z]) | none => False) : OpRes P o a w X B W0 ts H pl K := by
  split at h
  · rename_i z hz
    obtain ⟨inf, zv, h1, h2, h3⟩ := hZ t z hz
    obtain ⟨c1, e, hc⟩ := litIn_RC (ρ := ctx X H pl w) z _ _ h3
    rw [List.append_nil] at e
    subst e
    obtain ⟨pl', h4, h5, hl⟩ := sim_newBox s t hc
    unfold OpRes
    have hr : (execOp a.eval o).run P w = .ok (.value (.pointer (some ⟨w.heap.size, 0, none⟩))) (w.alloc (.cells zv.cells t)) := by
      simp [execOp, ho, Instr.alloc, zeroValue, typeInfo, h1, h2, newVar, newRow, newObj, Sem.run]
    rw [hr]
    exact ⟨_, _, pl', h, h4, h5, hl⟩
  · exact h.elim

theorem op_load (hT : TabOK P T) {o : Oper} {t : TypeId} {x : Operand} (ho : o.op = .load t x) (s : Sim X B W0 ⟨ts, H⟩ a w pl) {K : LV → List Blk → Prop}
    (h : loadW T H t (ev ts x) fun v => K v H) : OpResS P o a w X B W0 ts H pl K := by
  have hx := ev_sound s x
  unfold loadW at h
  cases hi : T t with
  | none => rw [hi] at h; exact h.elim
  | some i =>
    rw [hi] at h
    have hty := hT t i hi
    have run : ∀ {ad : Addr} {v : Value}, a.eval x = .pointer (some ad) → (loadVar t ad).run P w = .ok v w → (execOp a.eval o).run P w = .ok (.value v) w := by
      intro ad v e1 e2
      simp [execOp, ho, e1, Instr.loadAt, Instr.sureAddr, e2]
    cases e : ev ts x <;> rw [e] at h <;> try exact h.elim
    case ref c =>
      rw [e] at hx
      simp only [RT, RT1, RC] at hx
      obtain ⟨ad, es, h1, h2, h3, h4, h5⟩ := hx
      simp at h1
      simp only at h
      split at h
      · rename_i hf
        obtain ⟨v, hv, h6, _⟩ := run_loadVar hty h4 hf h5
        exact OpResS.pure s (run h1 hv) h (RT.mono (Ctx.pure_le _) _ _ h6)
      · exact h.elim
    case hp id n path =>
      rw [e] at hx
      simp only [RT, RT1, RC] at hx
      obtain ⟨u, h1, h2⟩ := hx
      simp at h1
      subst h1
      have fin : ∀ {y : LV}, ((∃ c, H[id]? = some (.box c) ∧ getP c path = some y) ∨ (∃ e k xs, H[id]? = some (.arr e k xs) ∧ n = xs.length ∧ path ≠ [] ∧ getP (.st xs) path = some y) ∨
          (∃ e k xs, H[id]? = some (.tree e k xs) ∧ n = xs.length ∧ path ≠ [] ∧ getP (.st xs) path = some y ∧ noOwn y = true)) →
          fitT i y = true → K y H → OpResS P o a w X B W0 ts H pl K := by
        intro y hy hf hk
        obtain ⟨o', es, h3, h4, h5⟩ := load_place s h2 hy
        obtain ⟨v, hv, h6, _⟩ := run_loadVar hty h5 hf h4
        exact OpResS.pure s (run h3 hv) hk h6
      simp only at h
      split at h
      · rename_i c hc
        obtain ⟨y, h3, h4, h5⟩ := h
        exact fin (.inl ⟨c, hc, h3⟩) h4 h5
      · rename_i e' k xs hc
        obtain ⟨hn, hne, y, h3, h4, h5⟩ := h
        exact fin (.inr (.inl ⟨e', k, xs, hc, hn, hne, h3⟩)) h4 h5
      · rename_i e' k xs hc
        obtain ⟨hn, hne, y, h3, ho, h4, h5⟩ := h
        exact fin (.inr (.inr ⟨e', k, xs, hc, hn, hne, h3, ho⟩)) h4 h5
      · exact h.elim

end
end Go.Lg

