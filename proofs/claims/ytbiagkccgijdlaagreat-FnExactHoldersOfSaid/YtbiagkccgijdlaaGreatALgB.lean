/- The state of a function's run as the logic of values has it, and how it stands to the model's state. -/
import Derived.Test.YtbiagkccgijdlaaGreatALgA
import Derived.Laws.AppendOwn
import Derived.Laws.OwnMore
import Derived.Laws.MakeOwn
namespace Go.Lg
variable [GI]
set_option linter.unusedSectionVars false
set_option linter.unusedVariables false
set_option linter.unusedSimpArgs false
open Go.RowKit

/-- What a map's keys are. -/
inductive MK where
  | int (q : IntKind)
  | str
  | pair (q r : IntKind)
  deriving Inhabited

inductive Blk where
  | dead
  | box (c : LV)
  | row (t : Bool) (e : TypeId) (k : Nat) (xs : List LV)
  | it (s : ByteArray) (pos : Nat)
  | opn (e : TypeId) (k : Nat) (g : LV → List LV) (j m : Nat)
  | bld (t e : TypeId) (used : Bool) (l : List UInt8)
  | mp (mk : MK) (L : List (LV × LV))
  deriving Inhabited

/-- A row of bytes, as cells. -/
def bytC (l : List UInt8) : List Value := l.map fun b => Value.int .u8 b.toNat
/-- Blocks that a handle stands for as a whole. -/
def Blk.whole : Blk → Prop
  | .it _ _ => True
  | .bld _ _ _ _ => True
  | .mp _ _ => True
  | _ => False

/-- A row of plain readings. -/
@[match_pattern, reducible] def Blk.arr (e : TypeId) (k : Nat) (xs : List LV) : Blk := .row false e k xs
/-- A row whose readings may own rows of their own. -/
@[match_pattern, reducible] def Blk.tree (e : TypeId) (k : Nat) (xs : List LV) : Blk := .row true e k xs

def Blk.live : Blk → Prop
  | .dead => False
  | _ => True

/-- What a row's handle reaches. -/
def Blk.isRow : Blk → List LV → Prop
  | .row _ _ _ ys, xs => ys = xs
  | .opn _ _ g _ _, xs => g .nil = xs
  | _, _ => False

/-- What a handle stands for: a value, and the blocks that what is read below it owns. -/
structure PV where
  v : Value
  fp : List Nat
  deriving Inhabited
instance : Coe PV Value := ⟨PV.v⟩

def pctx (O : Nat → Prop) (w : World) : Ctx := { w, O, hs := fun _ _ _ => False, hp := fun _ _ _ _ => False }

structure St where
  tmps : List LV
  heap : List Blk

def getP : LV → List Nat → Option LV
  | c, [] => some c
  | .st fs, f :: p => match fs[f]? with | some x => getP x p | none => none
  | _, _ => none

def offP : LV → List Nat → Option Nat
  | _, [] => some 0
  | .st fs, f :: p => match fs[f]? with | some x => (offP x p).map (LV.sizes (fs.take f) + ·) | none => none
  | _, _ => none

def setP : LV → List Nat → LV → LV
  | _, [], v => v
  | .st fs, f :: p, v => match fs[f]? with | some x => .st (fs.set f (setP x p v)) | none => .st fs
  | c, _, _ => c

def bk : Value → Nat
  | .pointer (some a) => a.block
  | .slice (some a) _ _ => a.block
  | .map (some b) => b
  | _ => 0

def hasBk : Value → Bool
  | .pointer (some _) => true
  | .slice (some _) _ _ => true
  | .map (some _) => true
  | _ => false

def feet (v : Value) : List Nat := if hasBk v = true then [bk v] else []
theorem mem_feet {v : Value} {b : Nat} : b ∈ feet v ↔ hasBk v = true ∧ bk v = b := by
  unfold feet
  split
  · rename_i h; simp [h, eq_comm]
  · rename_i h; simp [h]
theorem feet_nodup (v : Value) : (feet v).Nodup := by unfold feet; split <;> simp

/-- The blocks that a block owns. -/
def Blk.feet (u : PV) : Blk → List Nat
  | .row true _ _ _ => Go.Lg.feet u.v ++ u.fp
  | .opn _ _ _ _ _ => Go.Lg.feet u.v ++ u.fp
  | .bld _ _ _ _ => Go.Lg.feet u.v ++ u.fp
  | _ => Go.Lg.feet u.v
theorem Blk.feet_head {u : PV} {blk : Blk} {b : Nat} (h : b ∈ Go.Lg.feet u.v) : b ∈ blk.feet u := by
  cases blk <;> simp only [Blk.feet] <;> try exact h
  · rename_i t _ _ _; cases t <;> simp only [Blk.feet] <;> first | exact h | exact List.mem_append_left _ h
  · exact List.mem_append_left _ h
  · exact List.mem_append_left _ h

mutual
def RRc (w : World) (O : Nat → Prop) (base : Nat) : LV → List Value → List Nat → Prop
  | .own e k xs, cs, bs => ∃ v es, cs = [v] ∧ w.ownsRow base e k v xs.length es ∧ RCs (pctx O w) xs es ∧ (∀ x ∈ xs, x.size = k) ∧ 0 < k ∧ bs = (if hasBk v then [bk v] else [])
  | .st fs, cs, bs => RRcs w O base fs cs bs
  | .undef, cs, bs => RC (pctx O w) .undef cs ∧ bs = []
  | .int k n, cs, bs => RC (pctx O w) (.int k n) cs ∧ bs = []
  | .bool b, cs, bs => RC (pctx O w) (.bool b) cs ∧ bs = []
  | .lit b, cs, bs => RC (pctx O w) (.lit b) cs ∧ bs = []
  | .str s, cs, bs => RC (pctx O w) (.str s) cs ∧ bs = []
  | .nil, cs, bs => RC (pctx O w) .nil cs ∧ bs = []
  | .sl xs, cs, bs => RC (pctx O w) (.sl xs) cs ∧ bs = []
  | .tup _, _, _ => False
  | .ref c, cs, bs => RC (pctx O w) (.ref c) cs ∧ bs = []
  | .clos f c, cs, bs => RC (pctx O w) (.clos f c) cs ∧ bs = []
  | .ifc f c, cs, bs => RC (pctx O w) (.ifc f c) cs ∧ bs = []
  | .hs _ _, _, _ => False
  | .hp _ _ _, _, _ => False
def RRcs (w : World) (O : Nat → Prop) (base : Nat) : List LV → List Value → List Nat → Prop
  | [], cs, bs => cs = [] ∧ bs = []
  | x :: xs, cs, bs => ∃ c1 c2 b1 b2, cs = c1 ++ c2 ∧ bs = b1 ++ b2 ∧ RRc w O base x c1 b1 ∧ RRcs w O base xs c2 b2
end

def hsOK (H : List Blk) (pl : Nat → PV) (id n : Nat) (v : Value) : Prop :=
  id < H.length ∧ (∃ a l c, v = .slice a l c) ∧ ∀ (b : Blk) xs, H[id]? = some b → b.isRow xs → n = xs.length → v = pl id

def hpOK (H : List Blk) (pl : Nat → PV) (id n : Nat) (path : List Nat) (v : Value) : Prop :=
  id < H.length ∧ ((∃ ad, v = .pointer (some ad)) ∨ ∃ b, v = .map (some b)) ∧
  (∀ c o, H[id]? = some (.box c) → offP c path = some o → v = .pointer (some ⟨bk (pl id), o, none⟩)) ∧
  (∀ (b : Blk) xs o, H[id]? = some b → b.isRow xs → n = xs.length → offP (.st xs) path = some o → v = .pointer (some ⟨bk (pl id), o, none⟩)) ∧
  (∀ blk : Blk, H[id]? = some blk → blk.whole → v = pl id)

def owned (X : Nat → Prop) (H : List Blk) (pl : Nat → PV) (b : Nat) : Prop :=
  X b ∨ ∃ (id : Nat) (blk : Blk), H[id]? = some blk ∧ blk.live ∧ b ∈ blk.feet (pl id)

def ctx (X : Nat → Prop) (H : List Blk) (pl : Nat → PV) (w : World) : Ctx :=
  { w, O := owned X H pl, hs := hsOK H pl, hp := hpOK H pl }

/-- A temporary reads so. -/
def RT1 (ρ : Ctx) (x : LV) (v : Value) : Prop :=
  match x with
  | .undef => True
  | .st fs => ∃ cs, v = .agg cs ∧ RCs ρ fs cs.toList
  | .tup _ => False
  | y => RC ρ y [v]

/-- Reads so wherever. -/
def isV (x : LV) (v : Value) : Prop := ∀ ρ : Ctx, RT1 ρ x v
def keyL : MK → LV → Prop
  | .int q, x => ∃ n : Int, x = .int q n ∧ (Lit.int q n).wf = true
  | .str, x => ∃ s : ByteArray, x = .str s
  | .pair q r, x => ∃ a b : Int, x = .st [.int q a, .int r b] ∧ (Lit.int q a).wf = true ∧ (Lit.int r b).wf = true

def BlkOK (B : Nat) (ρ : Ctx) (u : PV) : Blk → Prop
  | .dead => True
  | .box c => ∃ b es ty, u.v = .pointer (some ⟨b, 0, none⟩) ∧ B ≤ b ∧ ρ.w.heap[b]? = some (.cells es.toArray ty (0, 0)) ∧ RC ρ c es
  | .row t e k xs => ∃ es, ρ.w.ownsRow B e k u.v xs.length es ∧ (match t with | false => RCs ρ.pure xs es | true => RRcs ρ.w ρ.O B xs es u.fp) ∧ (∀ x ∈ xs, x.size = k) ∧ 0 < k
  | .it s pos => ∃ b, u.v = .pointer (some ⟨b, 0, none⟩) ∧ B ≤ b ∧ ρ.w.heap[b]? = some (.stringIter s pos) ∧ s.size ≤ maxLen
  | .opn e k g j m => ∃ pre post v p, ρ.w.ownsRow B e k u.v (g .nil).length (pre ++ v :: post) ∧ RRcs ρ.w ρ.O B (g .nil) (pre ++ .slice none 0 0 :: post) u.fp ∧ (∀ x ∈ g .nil, x.size = k) ∧ 0 < k ∧
      getP (.st (g .nil)) p = some .nil ∧ offP (.st (g .nil)) p = some pre.length ∧ (∀ y, setP (.st (g .nil)) p y = .st (g y)) ∧ ρ.hs j m v
  | .bld t e used l => ∃ b v, u.v = .pointer (some ⟨b, 0, none⟩) ∧ B ≤ b ∧ ρ.w.heap[b]? = some (.cells #[.pointer (if used then some ⟨b, 0, none⟩ else none), v] t (0, 0)) ∧
      ρ.w.ownsRow B e 1 v l.length (bytC l) ∧ u.fp = Go.Lg.feet v
  | .mp mk L => ∃ b es clock, u.v = .map (some b) ∧ B ≤ b ∧ ρ.w.heap[b]? = some (.map es clock) ∧ es.size = L.length ∧ (∀ (i : Nat) (e : MapEntry) (kv : LV × LV), es[i]? = some e → L[i]? = some kv → isV kv.1 e.key ∧ isV kv.2 e.val) ∧ (∀ kv ∈ L, keyL mk kv.1) ∧ (L.map (·.1)).Nodup

/-- Where a run began: the memory, and the blocks that were lent. -/
structure Orig where
  w : World
  H : List Blk
  pl : Nat → PV

structure Good (X : Nat → Prop) (B : Nat) (W0 : Orig) (H : List Blk) (pl : Nat → PV) (w : World) : Prop where
  below : Below B W0.w w
  base : B ≤ W0.w.heap.size ∧ GI.I B W0.w
  ok : ∀ id blk, H[id]? = some blk → BlkOK B (ctx X H pl w) (pl id) blk
  inj : ∀ (i j : Nat) (bi bj : Blk) (b : Nat), H[i]? = some bi → bi.live → H[j]? = some bj → bj.live → b ∈ bi.feet (pl i) → b ∈ bj.feet (pl j) → i = j
  nd : ∀ (i : Nat) (bi : Blk), H[i]? = some bi → bi.live → (bi.feet (pl i)).Nodup
  xlt : ∀ b, X b → b < W0.w.heap.size
  keepX : ∀ b, X b → w.heap[b]? = W0.w.heap[b]?
  apart : ∀ (id : Nat) (blk : Blk) (b : Nat), H[id]? = some blk → blk.live → b ∈ blk.feet (pl id) → ¬ X b

def RT (ρ : Ctx) (x : LV) (v : Value) : Prop :=
  match x with
  | .tup vs => ∃ us : Array Value, v = .tuple us ∧ us.size = vs.length ∧ ∀ (i : Nat) y u, vs[i]? = some y → us[i]? = some u → RT1 ρ y u
  | y => RT1 ρ y v

structure Sim (X : Nat → Prop) (B : Nat) (W0 : Orig) (s : St) (a : Act) (w : World) (pl : Nat → PV) : Prop where
  good : Good X B W0 s.heap pl w
  defers : a.defers = []
  size : a.tmps.size = s.tmps.length
  tmps : ∀ (t : Nat) x, s.tmps[t]? = some x → RT (ctx X s.heap pl w) x (a.tmps.getD t undef)
  le : (ctx X W0.H W0.pl W0.w).Le (ctx X s.heap pl w)

theorem Ctx.Le.trans {ρ σ τ : Ctx} (h : ρ.Le σ) (k : σ.Le τ) : ρ.Le τ :=
  ⟨Nat.le_trans h.size k.size, fun b hb ho => (k.keep b (Nat.lt_of_lt_of_le hb h.size) (fun o => ho (h.own b hb o))).trans (h.keep b hb ho),
    fun b hb o => h.own b hb (k.own b (Nat.lt_of_lt_of_le hb h.size) o), fun id n v e => k.hs _ _ _ (h.hs _ _ _ e), fun id n p v e => k.hp _ _ _ _ (h.hp _ _ _ _ e)⟩

theorem RT1.mono {ρ ρ' : Ctx} (hl : ρ.Le ρ') (x : LV) (v : Value) (h : RT1 ρ x v) : RT1 ρ' x v := by
  unfold RT1 at *
  cases x <;> first
    | exact h
    | (obtain ⟨cs, k1, k2⟩ := h; exact ⟨cs, k1, RCs.mono hl _ _ k2⟩)
    | exact RC.mono hl _ _ h

theorem RT.mono {ρ ρ' : Ctx} (hl : ρ.Le ρ') (x : LV) (v : Value) (h : RT ρ x v) : RT ρ' x v := by
  unfold RT at *
  cases x <;> first
    | exact RT1.mono hl _ _ h
    | (obtain ⟨us, h1, h2, h3⟩ := h; exact ⟨us, h1, h2, fun i y u hy hu => RT1.mono hl _ _ (h3 i y u hy hu)⟩)

/-- The world may grow, and be drawn from: nothing that is owned turns. -/
theorem ctx_grow {X : Nat → Prop} {H : List Blk} {pl : Nat → PV} {w w' : World} (hb : Below w.heap.size w w') : (ctx X H pl w).Le (ctx X H pl w') :=
  ⟨hb.size, fun b hlt _ => hb.block b hlt, fun _ _ h => h, fun _ _ _ h => h, fun _ _ _ _ h => h⟩

theorem ownsRow_of_block {w w' : World} {B e k n : Nat} {v : Value} {es : List Value} (h : w.ownsRow B e k v n es) (hk : hasBk v = true → w'.heap[bk v]? = w.heap[bk v]?) : w'.ownsRow B e k v n es := by
  obtain ⟨h1, h2⟩ := h
  refine ⟨h1, ?_⟩
  rcases h2 with h2 | ⟨g, cap, cur, rfl, h3, h4, h5⟩
  · exact .inl h2
  · exact .inr ⟨g, cap, cur, rfl, h3, by rw [← h4]; exact hk rfl, h5⟩

mutual
theorem RRc.mono {w w' : World} {O O' : Nat → Prop} {base : Nat} (hl : (pctx O w).Le (pctx O' w')) : ∀ (x : LV) (cs : List Value) (bs : List Nat), (∀ b ∈ bs, w'.heap[b]? = w.heap[b]?) → RRc w O base x cs bs → RRc w' O' base x cs bs
  | .own e k xs, cs, bs, hk, h => by
    simp only [RRc] at h ⊢
    obtain ⟨v, es, h1, h2, h3, h4, h5, rfl⟩ := h
    exact ⟨v, es, h1, ownsRow_of_block h2 (fun hv => hk _ (by simp [hv])), RCs.mono hl _ _ h3, h4, h5, rfl⟩
  | .st fs, cs, bs, hk, h => by simp only [RRc] at h ⊢; exact RRcs.mono hl fs cs bs hk h
  | .undef, cs, bs, _, h => by simp only [RRc] at h ⊢; exact ⟨RC.mono hl _ _ h.1, h.2⟩
  | .int k n, cs, bs, _, h => by simp only [RRc] at h ⊢; exact ⟨RC.mono hl _ _ h.1, h.2⟩
  | .bool b, cs, bs, _, h => by simp only [RRc] at h ⊢; exact ⟨RC.mono hl _ _ h.1, h.2⟩
  | .lit b, cs, bs, _, h => by simp only [RRc] at h ⊢; exact ⟨RC.mono hl _ _ h.1, h.2⟩
  | .str s, cs, bs, _, h => by simp only [RRc] at h ⊢; exact ⟨RC.mono hl _ _ h.1, h.2⟩
  | .nil, cs, bs, _, h => by simp only [RRc] at h ⊢; exact ⟨RC.mono hl _ _ h.1, h.2⟩
  | .sl xs, cs, bs, _, h => by simp only [RRc] at h ⊢; exact ⟨RC.mono hl _ _ h.1, h.2⟩
  | .tup _, _, _, _, h => by simp [RRc] at h
  | .ref c, cs, bs, _, h => by simp only [RRc] at h ⊢; exact ⟨RC.mono hl _ _ h.1, h.2⟩
  | .clos f c, cs, bs, _, h => by simp only [RRc] at h ⊢; exact ⟨RC.mono hl _ _ h.1, h.2⟩
  | .ifc f c, cs, bs, _, h => by simp only [RRc] at h ⊢; exact ⟨RC.mono hl _ _ h.1, h.2⟩
  | .hs _ _, _, _, _, h => by simp [RRc] at h
  | .hp _ _ _, _, _, _, h => by simp [RRc] at h
theorem RRcs.mono {w w' : World} {O O' : Nat → Prop} {base : Nat} (hl : (pctx O w).Le (pctx O' w')) : ∀ (xs : List LV) (cs : List Value) (bs : List Nat), (∀ b ∈ bs, w'.heap[b]? = w.heap[b]?) → RRcs w O base xs cs bs → RRcs w' O' base xs cs bs
  | [], cs, bs, _, h => by simp only [RRcs] at h ⊢; exact h
  | x :: xs, cs, bs, hk, h => by
    simp only [RRcs] at h ⊢
    obtain ⟨c1, c2, b1, b2, h1, rfl, h2, h3⟩ := h
    exact ⟨c1, c2, b1, b2, h1, rfl, RRc.mono hl x c1 b1 (fun b hb => hk b (List.mem_append_left _ hb)) h2, RRcs.mono hl xs c2 b2 (fun b hb => hk b (List.mem_append_right _ hb)) h3⟩
end

theorem ownsRow_feet {w : World} {B e k n : Nat} {v : Value} {es : List Value} (h : w.ownsRow B e k v n es) {b : Nat} (hb : b ∈ feet v) : B ≤ b ∧ b < w.heap.size := by
  obtain ⟨hv, rfl⟩ := mem_feet.1 hb
  rcases h.2 with ⟨rfl, _⟩ | ⟨g, cap, cur, rfl, h3, h4, _⟩
  · simp [hasBk] at hv
  · refine ⟨h3, ?_⟩
    show g < _
    rcases Nat.lt_or_ge g w.heap.size with h | h
    · exact h
    · simp [Array.getElem?_eq_none h] at h4

mutual
theorem RRc.lt {w : World} {O : Nat → Prop} {base : Nat} : ∀ (x : LV) (cs : List Value) (bs : List Nat), RRc w O base x cs bs → ∀ b ∈ bs, base ≤ b ∧ b < w.heap.size
  | .own e k xs, cs, bs, h => by
    simp only [RRc] at h
    obtain ⟨v, es, h1, h2, h3, h4, h5, rfl⟩ := h
    exact fun b hb => ownsRow_feet h2 hb
  | .st fs, cs, bs, h => by simp only [RRc] at h; exact RRcs.lt fs cs bs h
  | .undef, cs, bs, h => by simp only [RRc] at h; rw [h.2]; simp
  | .int k n, cs, bs, h => by simp only [RRc] at h; rw [h.2]; simp
  | .bool b, cs, bs, h => by simp only [RRc] at h; rw [h.2]; simp
  | .lit b, cs, bs, h => by simp only [RRc] at h; rw [h.2]; simp
  | .str s, cs, bs, h => by simp only [RRc] at h; rw [h.2]; simp
  | .nil, cs, bs, h => by simp only [RRc] at h; rw [h.2]; simp
  | .sl xs, cs, bs, h => by simp only [RRc] at h; rw [h.2]; simp
  | .tup _, _, _, h => by simp [RRc] at h
  | .ref c, cs, bs, h => by simp only [RRc] at h; rw [h.2]; simp
  | .clos f c, cs, bs, h => by simp only [RRc] at h; rw [h.2]; simp
  | .ifc f c, cs, bs, h => by simp only [RRc] at h; rw [h.2]; simp
  | .hs _ _, _, _, h => by simp [RRc] at h
  | .hp _ _ _, _, _, h => by simp [RRc] at h
theorem RRcs.lt {w : World} {O : Nat → Prop} {base : Nat} : ∀ (xs : List LV) (cs : List Value) (bs : List Nat), RRcs w O base xs cs bs → ∀ b ∈ bs, base ≤ b ∧ b < w.heap.size
  | [], cs, bs, h => by simp only [RRcs] at h; rw [h.2]; simp
  | x :: xs, cs, bs, h => by
    simp only [RRcs] at h
    obtain ⟨c1, c2, b1, b2, h1, rfl, h2, h3⟩ := h
    intro b hb
    rcases List.mem_append.1 hb with hb | hb
    · exact RRc.lt x c1 b1 h2 b hb
    · exact RRcs.lt xs c2 b2 h3 b hb
end

theorem BlkOK.mono {B : Nat} {ρ ρ' : Ctx} (hl : ρ.Le ρ') {u : PV} {blk : Blk} (hk : ∀ b ∈ blk.feet u, ρ'.w.heap[b]? = ρ.w.heap[b]?)
    (h : BlkOK B ρ u blk) : BlkOK B ρ' u blk := by
  have hk1 : hasBk u.v = true → ρ'.w.heap[bk u.v]? = ρ.w.heap[bk u.v]? := fun hv => hk _ (Blk.feet_head (mem_feet.2 ⟨hv, rfl⟩))
  cases blk with
  | dead => trivial
  | box c =>
    obtain ⟨b', es, ty, h1, e2, e3, e4⟩ := h
    exact ⟨b', es, ty, h1, e2, by rw [← e3]; have := hk1 (by rw [h1]; rfl); rw [h1] at this; exact this, RC.mono hl _ _ e4⟩
  | row t e k xs =>
    obtain ⟨es, e1, e2, e3⟩ := h
    refine ⟨es, ownsRow_of_block e1 hk1, ?_, e3⟩
    cases t with
    | false => exact RCs.mono hl.pure _ _ e2
    | true => exact RRcs.mono hl.pure _ _ _ (fun b hb => hk b (List.mem_append_right _ hb)) e2
  | it s pos =>
    obtain ⟨b', h1, e2, e3, e4⟩ := h
    exact ⟨b', h1, e2, by rw [← e3]; have := hk1 (by rw [h1]; rfl); rw [h1] at this; exact this, e4⟩
  | opn e k g j m =>
    obtain ⟨pre, post, v, p, e1, e2, e3, e4, e5, e6, e7, e8⟩ := h
    exact ⟨pre, post, v, p, ownsRow_of_block e1 hk1, RRcs.mono hl.pure _ _ _ (fun b hb => hk b (List.mem_append_right _ hb)) e2, e3, e4, e5, e6, e7, hl.hs _ _ _ e8⟩
  | bld t e us l =>
    obtain ⟨b', v, h1, e2, e3, e4, e5⟩ := h
    exact ⟨b', v, h1, e2, by rw [← e3]; have := hk1 (by rw [h1]; rfl); rw [h1] at this; exact this, ownsRow_of_block e4 (fun hv => hk _ (List.mem_append_right _ (by rw [e5]; exact mem_feet.2 ⟨hv, rfl⟩))), e5⟩
  | mp mk L =>
    obtain ⟨b', es, clock, h1, e2, e3, e4⟩ := h
    exact ⟨b', es, clock, h1, e2, by rw [← e3]; have := hk1 (by rw [h1]; rfl); rw [h1] at this; exact this, e4⟩

theorem BlkOK.feet_lt {B : Nat} {ρ : Ctx} {u : PV} {blk : Blk} (h : BlkOK B ρ u blk) (hl : blk.live) {b : Nat} (hb : b ∈ blk.feet u) : B ≤ b ∧ b < ρ.w.heap.size := by
  have lt : ∀ {x : Nat} {o : Obj}, ρ.w.heap[x]? = some o → x < ρ.w.heap.size := fun {x o} hx => by
    rcases Nat.lt_or_ge x ρ.w.heap.size with h | h
    · exact h
    · simp [Array.getElem?_eq_none h] at hx
  cases blk with
  | dead => exact hl.elim
  | box c =>
    obtain ⟨b', es, ty, h1, e2, e3, e4⟩ := h
    obtain ⟨_, hb⟩ := mem_feet.1 hb
    rw [h1] at hb
    simp only [bk] at hb
    subst hb
    exact ⟨e2, lt e3⟩
  | row t e k xs =>
    obtain ⟨es, e1, e2, e3⟩ := h
    cases t with
    | false => exact ownsRow_feet e1 hb
    | true =>
      rcases List.mem_append.1 hb with hb | hb
      · exact ownsRow_feet e1 hb
      · exact RRcs.lt _ _ _ e2 b hb
  | it s pos =>
    obtain ⟨b', h1, e2, e3, e4⟩ := h
    obtain ⟨_, hb⟩ := mem_feet.1 hb
    rw [h1] at hb
    simp only [bk] at hb
    subst hb
    exact ⟨e2, lt e3⟩
  | opn e k g j m =>
    obtain ⟨pre, post, v, p, e1, e2, e3⟩ := h
    rcases List.mem_append.1 hb with hb | hb
    · exact ownsRow_feet e1 hb
    · exact RRcs.lt _ _ _ e2 b hb
  | bld t e us l =>
    obtain ⟨b', v, h1, e2, e3, e4, e5⟩ := h
    rcases List.mem_append.1 hb with hb | hb
    · obtain ⟨_, hb⟩ := mem_feet.1 hb
      rw [h1] at hb
      simp only [bk] at hb
      subst hb
      exact ⟨e2, lt e3⟩
    · rw [e5] at hb
      exact ownsRow_feet e4 hb
  | mp mk L =>
    obtain ⟨b', es, clock, h1, e2, e3, e4⟩ := h
    obtain ⟨_, hb⟩ := mem_feet.1 hb
    rw [h1] at hb
    simp only [bk] at hb
    subst hb
    exact ⟨e2, lt e3⟩

theorem BlkOK.hasBk_lt {B : Nat} {ρ : Ctx} {u : PV} {blk : Blk} (h : BlkOK B ρ u blk) (hl : blk.live) (hb : hasBk u.v = true) : B ≤ bk u.v ∧ bk u.v < ρ.w.heap.size :=
  h.feet_lt hl (Blk.feet_head (mem_feet.2 ⟨hb, rfl⟩))

theorem BlkOK.grow {X : Nat → Prop} {B : Nat} {H : List Blk} {pl : Nat → PV} {w w' : World} (hb : Below w.heap.size w w') {u : PV} {blk : Blk}
    (h : BlkOK B (ctx X H pl w) u blk) : BlkOK B (ctx X H pl w') u blk := by
  by_cases hl : blk.live
  · exact h.mono (ctx_grow hb) fun b hv => hb.block _ (h.feet_lt hl hv).2
  · cases blk <;> first | trivial | exact absurd trivial hl

theorem Good.base' {X : Nat → Prop} {B : Nat} {W0 : Orig} {H : List Blk} {pl : Nat → PV} {w : World} (g : Good X B W0 H pl w) : B ≤ w.heap.size ∧ GI.I B w :=
  ⟨Nat.le_trans g.base.1 g.below.size, GI.keep g.below g.base.2⟩
theorem Good.inv {X : Nat → Prop} {B : Nat} {W0 : Orig} {H : List Blk} {pl : Nat → PV} {w : World} (g : Good X B W0 H pl w) : GI.I w.heap.size w := GI.mono g.base'.1 g.base'.2

theorem Good.grow {X : Nat → Prop} {B : Nat} {W0 : Orig} {H : List Blk} {pl : Nat → PV} {w w' : World} (g : Good X B W0 H pl w) (hb : Below w.heap.size w w') : Good X B W0 H pl w' :=
  ⟨g.below.trans (hb.mono (Nat.le_trans g.base.1 g.below.size)), g.base, fun id blk h => (g.ok id blk h).grow hb, g.inj, g.nd, g.xlt,
    fun b h => (hb.block b (Nat.lt_of_lt_of_le (g.xlt b h) g.below.size)).trans (g.keepX b h), g.apart⟩

theorem Sim.grow {X : Nat → Prop} {B : Nat} {W0 : Orig} {s : St} {a : Act} {w w' : World} {pl : Nat → PV} (h : Sim X B W0 s a w pl) (hb : Below w.heap.size w w') : Sim X B W0 s a w' pl :=
  ⟨h.good.grow hb, h.defers, h.size, fun t x hx => RT.mono (ctx_grow hb) _ _ (h.tmps t x hx), h.le.trans (ctx_grow hb)⟩

/-- A value is laid into a temporary. -/
theorem Sim.put {X : Nat → Prop} {B : Nat} {W0 : Orig} {s : St} {a : Act} {w : World} {pl : Nat → PV} (h : Sim X B W0 s a w pl) {d : Nat} {x : LV} {v : Value}
    (hv : RT (ctx X s.heap pl w) x v) : Sim X B W0 { s with tmps := s.tmps.set d x } (a.put (some d) v) w pl := by
  refine ⟨h.good, h.defers, by simp [Act.put, h.size], fun t y hy => ?_, h.le⟩
  simp only [List.getElem?_set] at hy
  simp only [Act.put]
  split at hy
  · rename_i e
    subst e
    split at hy
    · rename_i hlt
      cases hy
      have : d < a.tmps.size := by rw [h.size]; exact hlt
      simp [Array.getD, this]
      exact hv
    · cases hy
  · rename_i e
    have := h.tmps t y hy
    simp only [Array.getD_eq_getD_getElem?, Array.getElem?_setIfInBounds_ne e] at this ⊢
    exact this

def upd (pl : Nat → PV) (id : Nat) (v : PV) : Nat → PV := fun i => if i = id then v else pl i
theorem upd_same (pl : Nat → PV) (id : Nat) (v : PV) : upd pl id v id = v := if_pos rfl
theorem upd_other {pl : Nat → PV} {id i : Nat} (v : PV) (h : i ≠ id) : upd pl id v i = pl i := if_neg h

theorem push_old {α : Type} {H : List α} {x : α} {id : Nat} (h : id < H.length) : (H ++ [x])[id]? = H[id]? := List.getElem?_append_left h
theorem push_new {α : Type} (H : List α) (x : α) : (H ++ [x])[H.length]? = some x := by simp

theorem lt_of_get {α : Type} {H : List α} {id : Nat} {x : α} (h : H[id]? = some x) : id < H.length := by
  rcases Nat.lt_or_ge id H.length with h' | h'
  · exact h'
  · simp [List.getElem?_eq_none h'] at h

/-- The handles that there were stand for what they stood for when a block is laid behind. -/
theorem hsOK_push {H : List Blk} {pl : Nat → PV} {blk : Blk} {u : PV} {id n : Nat} {v : Value} (h : hsOK H pl id n v) : hsOK (H ++ [blk]) (upd pl H.length u) id n v := by
  obtain ⟨h1, h2, h3⟩ := h
  refine ⟨by simp; omega, h2, fun b xs hx hr hn => ?_⟩
  rw [push_old h1] at hx
  rw [upd_other _ (by omega)]
  exact h3 b xs hx hr hn

theorem hpOK_push {H : List Blk} {pl : Nat → PV} {blk : Blk} {u : PV} {id n : Nat} {p : List Nat} {v : Value} (h : hpOK H pl id n p v) : hpOK (H ++ [blk]) (upd pl H.length u) id n p v := by
  obtain ⟨h1, h2, h3, h4, h5⟩ := h
  refine ⟨by simp; omega, h2, ?_, ?_, ?_⟩
  · intro c o hx ho; rw [push_old h1] at hx; rw [upd_other _ (by omega)]; exact h3 c o hx ho
  · intro b xs o hx hr hn ho; rw [push_old h1] at hx; rw [upd_other _ (by omega)]; exact h4 b xs o hx hr hn ho
  · intro s hx q; rw [push_old h1] at hx; rw [upd_other _ (by omega)]; exact h5 s hx q

theorem ctx_push {X : Nat → Prop} {B : Nat} {W0 : Orig} {H : List Blk} {pl : Nat → PV} {w w' : World} (_g : Good X B W0 H pl w) (hb : Below w.heap.size w w') {u : PV} {blk : Blk}
    (hu : ∀ b ∈ blk.feet u, w.heap.size ≤ b) : (ctx X H pl w).Le (ctx X (H ++ [blk]) (upd pl H.length u) w') := by
  refine ⟨hb.size, fun b hlt _ => hb.block b hlt, fun b hlt ho => ?_, fun _ _ _ h => hsOK_push h, fun _ _ _ _ h => hpOK_push h⟩
  rcases ho with ho | ⟨id, bl, h1, h2, h3⟩
  · exact .inl ho
  by_cases e : id = H.length
  · subst e
    rw [push_new] at h1
    cases h1
    rw [upd_same] at h3
    have := hu b h3
    have : b < w.heap.size := hlt
    omega
  · have hlt' : id < H.length := by have := lt_of_get h1; simp at this; omega
    rw [push_old hlt'] at h1
    rw [upd_other _ e] at h3
    exact .inr ⟨id, bl, h1, h2, h3⟩

theorem Good.push {X : Nat → Prop} {B : Nat} {W0 : Orig} {H : List Blk} {pl : Nat → PV} {w w' : World} (g : Good X B W0 H pl w) (hb : Below w.heap.size w w') {u : PV} {blk : Blk}
    (hu : ∀ b ∈ blk.feet u, w.heap.size ≤ b) (hn : (blk.feet u).Nodup) (hk : BlkOK B (ctx X (H ++ [blk]) (upd pl H.length u) w') u blk) : Good X B W0 (H ++ [blk]) (upd pl H.length u) w' := by
  have hl := ctx_push g hb (blk := blk) hu
  refine ⟨g.below.trans (hb.mono (Nat.le_trans g.base.1 g.below.size)), g.base, fun id bl h => ?_, fun i j bi bj b hi li hj lj ai aj => ?_, fun i bi hi li => ?_, g.xlt,
    fun b h => (hb.block b (Nat.lt_of_lt_of_le (g.xlt b h) g.below.size)).trans (g.keepX b h), fun id bl b h lv hv hx => ?_⟩
  · by_cases e : id = H.length
    · subst e
      rw [push_new] at h
      cases h
      rw [upd_same]
      exact hk
    · have hlt' : id < H.length := by have := lt_of_get h; simp at this; omega
      rw [push_old hlt'] at h
      rw [upd_other _ e]
      have hk0 := g.ok id bl h
      by_cases lv : bl.live
      · exact hk0.mono hl fun b hv => hb.block _ (hk0.feet_lt lv hv).2
      · cases bl <;> first | trivial | exact absurd trivial lv
  · have old : ∀ {i : Nat} {bi : Blk}, (H ++ [blk])[i]? = some bi → bi.live → i ≠ H.length → b ∈ bi.feet (upd pl H.length u i) → H[i]? = some bi ∧ b ∈ bi.feet (pl i) ∧ b < w.heap.size := by
      intro i bi hi li e ai
      have hlt' : i < H.length := by have := lt_of_get hi; simp at this; omega
      rw [push_old hlt'] at hi
      rw [upd_other _ e] at ai
      exact ⟨hi, ai, ((g.ok i bi hi).feet_lt li ai).2⟩
    have new : ∀ {i : Nat} {bi : Blk}, (H ++ [blk])[i]? = some bi → i = H.length → b ∈ bi.feet (upd pl H.length u i) → w.heap.size ≤ b := by
      intro i bi hi e ai
      subst e
      rw [push_new] at hi
      cases hi
      rw [upd_same] at ai
      exact hu b ai
    by_cases ei : i = H.length
    · by_cases ej : j = H.length
      · omega
      · have h1 := (old hj lj ej aj).2.2
        have h2 := new hi ei ai
        omega
    · by_cases ej : j = H.length
      · have h1 := (old hi li ei ai).2.2
        have h2 := new hj ej aj
        omega
      · obtain ⟨k1, k2, _⟩ := old hi li ei ai
        obtain ⟨m1, m2, _⟩ := old hj lj ej aj
        exact g.inj i j bi bj b k1 li m1 lj k2 m2
  · by_cases e : i = H.length
    · subst e
      rw [push_new] at hi
      cases hi
      rw [upd_same]
      exact hn
    · have hlt' : i < H.length := by have := lt_of_get hi; simp at this; omega
      rw [push_old hlt'] at hi
      rw [upd_other _ e]
      exact g.nd i bi hi li
  · by_cases e : id = H.length
    · subst e
      rw [push_new] at h
      cases h
      rw [upd_same] at hv
      have := hu b hv
      have := g.xlt _ hx
      have := g.below.size
      omega
    · have hlt' : id < H.length := by have := lt_of_get h; simp at this; omega
      rw [push_old hlt'] at h
      rw [upd_other _ e] at hv
      exact g.apart id bl b h lv hv hx

theorem Sim.push {X : Nat → Prop} {B : Nat} {W0 : Orig} {s : St} {a : Act} {w w' : World} {pl : Nat → PV} (h : Sim X B W0 s a w pl) (hb : Below w.heap.size w w') {u : PV} {blk : Blk}
    (hu : ∀ b ∈ blk.feet u, w.heap.size ≤ b) (hn : (blk.feet u).Nodup) (hk : BlkOK B (ctx X (s.heap ++ [blk]) (upd pl s.heap.length u) w') u blk) :
    Sim X B W0 { s with heap := s.heap ++ [blk] } a w' (upd pl s.heap.length u) :=
  ⟨h.good.push hb hu hn hk, h.defers, h.size, fun t x hx => RT.mono (ctx_push h.good hb hu) _ _ (h.tmps t x hx), h.le.trans (ctx_push h.good hb hu)⟩

/-- A handle's first block is at one place only. -/
theorem Good.inj1 {X : Nat → Prop} {B : Nat} {W0 : Orig} {H : List Blk} {pl : Nat → PV} {w : World} (g : Good X B W0 H pl w) {i j : Nat} {bi bj : Blk} (hi : H[i]? = some bi) (li : bi.live) (hj : H[j]? = some bj) (lj : bj.live)
    (ai : hasBk (pl i) = true) (aj : hasBk (pl j) = true) (h : bk (pl i) = bk (pl j)) : i = j :=
  g.inj i j bi bj (bk (pl i)) hi li hj lj (Blk.feet_head (mem_feet.2 ⟨ai, rfl⟩)) (Blk.feet_head (mem_feet.2 ⟨aj, h.symm⟩))

/-- Laid behind: one block, where it is flat. -/
theorem feet_new {v : Value} {n : Nat} (h : hasBk v = true → n ≤ bk v) : ∀ b ∈ feet v, n ≤ b := fun b hb => by obtain ⟨h1, rfl⟩ := mem_feet.1 hb; exact h h1

end Go.Lg

