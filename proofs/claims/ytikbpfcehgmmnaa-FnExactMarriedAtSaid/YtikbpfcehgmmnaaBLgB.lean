/- The state of a function's run as the logic of values has it, and how it stands to the model's state. -/
import Derived.Test.YtikbpfcehgmmnaaBLgA
import Derived.Laws.AppendOwn
import Derived.Laws.OwnMore
import Derived.Laws.MakeOwn
namespace Go.Lg
set_option linter.unusedVariables false
set_option linter.unusedSimpArgs false
open Go.RowKit

inductive Blk where
  | dead
  | box (c : LV)
  | arr (e : TypeId) (k : Nat) (xs : List LV)
  | it (s : ByteArray) (pos : Nat)
  deriving Inhabited

def Blk.live : Blk → Prop
  | .dead => False
  | _ => True

structure St where
  tmps : List LV
  heap : List Blk

def getP : LV → List Nat → Option LV
  | c, [] => some c
  | .st fs, f :: p => match fs[f]? with | some x => getP x p | none => none
  | _, _ => none

def offP : LV → List Nat → Option Nat
  | _, [] => some 0
  | .st fs, f :: p => match fs[f]? with | some x => (offP x p).map (LV.sizes (fs.take f) + ·) | none => none
  | _, _ => none

def setP : LV → List Nat → LV → LV
  | _, [], v => v
  | .st fs, f :: p, v => match fs[f]? with | some x => .st (fs.set f (setP x p v)) | none => .st fs
  | c, _, _ => c

def bk : Value → Nat
  | .pointer (some a) => a.block
  | .slice (some a) _ _ => a.block
  | _ => 0

def hasBk : Value → Bool
  | .pointer (some _) => true
  | .slice (some _) _ _ => true
  | _ => false

def hsOK (H : List Blk) (pl : Nat → Value) (id n : Nat) (v : Value) : Prop :=
  id < H.length ∧ (∃ a l c, v = .slice a l c) ∧ ∀ e k xs, H[id]? = some (.arr e k xs) → n = xs.length → v = pl id

def hpOK (H : List Blk) (pl : Nat → Value) (id n : Nat) (path : List Nat) (v : Value) : Prop :=
  id < H.length ∧ (∃ ad, v = .pointer (some ad)) ∧
  (∀ c o, H[id]? = some (.box c) → offP c path = some o → v = .pointer (some ⟨bk (pl id), o, none⟩)) ∧
  (∀ e k xs o, H[id]? = some (.arr e k xs) → n = xs.length → offP (.st xs) path = some o → v = .pointer (some ⟨bk (pl id), o, none⟩)) ∧
  (∀ s p, H[id]? = some (.it s p) → v = pl id)

def owned (X : Nat → Prop) (H : List Blk) (pl : Nat → Value) (b : Nat) : Prop :=
  X b ∨ ∃ id blk, H[id]? = some blk ∧ blk.live ∧ hasBk (pl id) = true ∧ bk (pl id) = b

def ctx (X : Nat → Prop) (H : List Blk) (pl : Nat → Value) (w : World) : Ctx :=
  { w, O := owned X H pl, hs := hsOK H pl, hp := hpOK H pl }

def BlkOK (B : Nat) (ρ : Ctx) (v : Value) : Blk → Prop
  | .dead => True
  | .box c => ∃ b es ty, v = .pointer (some ⟨b, 0, none⟩) ∧ B ≤ b ∧ ρ.w.heap[b]? = some (.cells es.toArray ty (0, 0)) ∧ RC ρ c es
  | .arr e k xs => ∃ es, ρ.w.ownsRow B e k v xs.length es ∧ RCs ρ.pure xs es ∧ (∀ x ∈ xs, x.size = k) ∧ 0 < k
  | .it s pos => ∃ b, v = .pointer (some ⟨b, 0, none⟩) ∧ B ≤ b ∧ ρ.w.heap[b]? = some (.stringIter s pos) ∧ s.size ≤ maxLen

/-- Where a run began: the memory, and the blocks that were lent. -/
structure Orig where
  w : World
  H : List Blk
  pl : Nat → Value

structure Good (X : Nat → Prop) (B : Nat) (W0 : Orig) (H : List Blk) (pl : Nat → Value) (w : World) : Prop where
  below : Below B W0.w w
  base : B ≤ W0.w.heap.size
  ok : ∀ id blk, H[id]? = some blk → BlkOK B (ctx X H pl w) (pl id) blk
  inj : ∀ i j bi bj, H[i]? = some bi → bi.live → H[j]? = some bj → bj.live → hasBk (pl i) = true → hasBk (pl j) = true → bk (pl i) = bk (pl j) → i = j
  xlt : ∀ b, X b → b < W0.w.heap.size
  keepX : ∀ b, X b → w.heap[b]? = W0.w.heap[b]?
  apart : ∀ id blk, H[id]? = some blk → blk.live → hasBk (pl id) = true → ¬ X (bk (pl id))

/-- A temporary reads so. -/
def RT1 (ρ : Ctx) (x : LV) (v : Value) : Prop :=
  match x with
  | .undef => True
  | .st fs => ∃ cs, v = .agg cs ∧ RCs ρ fs cs.toList
  | .tup _ => False
  | y => RC ρ y [v]

def RT (ρ : Ctx) (x : LV) (v : Value) : Prop :=
  match x with
  | .tup vs => ∃ us : Array Value, v = .tuple us ∧ us.size = vs.length ∧ ∀ (i : Nat) y u, vs[i]? = some y → us[i]? = some u → RT1 ρ y u
  | y => RT1 ρ y v

structure Sim (X : Nat → Prop) (B : Nat) (W0 : Orig) (s : St) (a : Act) (w : World) (pl : Nat → Value) : Prop where
  good : Good X B W0 s.heap pl w
  defers : a.defers = []
  size : a.tmps.size = s.tmps.length
  tmps : ∀ (t : Nat) x, s.tmps[t]? = some x → RT (ctx X s.heap pl w) x (a.tmps.getD t undef)
  le : (ctx X W0.H W0.pl W0.w).Le (ctx X s.heap pl w)

theorem Ctx.Le.trans {ρ σ τ : Ctx} (h : ρ.Le σ) (k : σ.Le τ) : ρ.Le τ :=
  ⟨Nat.le_trans h.size k.size, fun b hb ho => (k.keep b (Nat.lt_of_lt_of_le hb h.size) (fun o => ho (h.own b hb o))).trans (h.keep b hb ho),
    fun b hb o => h.own b hb (k.own b (Nat.lt_of_lt_of_le hb h.size) o), fun id n v e => k.hs _ _ _ (h.hs _ _ _ e), fun id n p v e => k.hp _ _ _ _ (h.hp _ _ _ _ e)⟩

theorem RT1.mono {ρ ρ' : Ctx} (hl : ρ.Le ρ') (x : LV) (v : Value) (h : RT1 ρ x v) : RT1 ρ' x v := by
  unfold RT1 at *
  cases x <;> first
    | exact h
    | (obtain ⟨cs, k1, k2⟩ := h; exact ⟨cs, k1, RCs.mono hl _ _ k2⟩)
    | exact RC.mono hl _ _ h

theorem RT.mono {ρ ρ' : Ctx} (hl : ρ.Le ρ') (x : LV) (v : Value) (h : RT ρ x v) : RT ρ' x v := by
  unfold RT at *
  cases x <;> first
    | exact RT1.mono hl _ _ h
    | (obtain ⟨us, h1, h2, h3⟩ := h; exact ⟨us, h1, h2, fun i y u hy hu => RT1.mono hl _ _ (h3 i y u hy hu)⟩)

/-- The world may grow, and be drawn from: nothing that is owned turns. -/
theorem ctx_grow {X : Nat → Prop} {H : List Blk} {pl : Nat → Value} {w w' : World} (hb : Below w.heap.size w w') : (ctx X H pl w).Le (ctx X H pl w') :=
  ⟨hb.size, fun b hlt _ => hb.block b hlt, fun _ _ h => h, fun _ _ _ h => h, fun _ _ _ _ h => h⟩

theorem ownsRow_of_block {w w' : World} {B e k n : Nat} {v : Value} {es : List Value} (h : w.ownsRow B e k v n es) (hk : hasBk v = true → w'.heap[bk v]? = w.heap[bk v]?) : w'.ownsRow B e k v n es := by
  obtain ⟨h1, h2⟩ := h
  refine ⟨h1, ?_⟩
  rcases h2 with h2 | ⟨g, cap, cur, rfl, h3, h4, h5⟩
  · exact .inl h2
  · exact .inr ⟨g, cap, cur, rfl, h3, by rw [← h4]; exact hk rfl, h5⟩

theorem BlkOK.mono {B : Nat} {ρ ρ' : Ctx} (hl : ρ.Le ρ') {v : Value} {blk : Blk} (hk : hasBk v = true → ρ'.w.heap[bk v]? = ρ.w.heap[bk v]?)
    (h : BlkOK B ρ v blk) : BlkOK B ρ' v blk := by
  cases blk with
  | dead => trivial
  | box c =>
    obtain ⟨b', es, ty, rfl, e2, e3, e4⟩ := h
    exact ⟨b', es, ty, rfl, e2, by rw [← e3]; exact hk rfl, RC.mono hl _ _ e4⟩
  | arr e k xs =>
    obtain ⟨es, e1, e2, e3⟩ := h
    exact ⟨es, ownsRow_of_block e1 hk, RCs.mono hl.pure _ _ e2, e3⟩
  | it s pos =>
    obtain ⟨b', rfl, e2, e3, e4⟩ := h
    exact ⟨b', rfl, e2, by rw [← e3]; exact hk rfl, e4⟩

theorem BlkOK.hasBk_lt {B : Nat} {ρ : Ctx} {v : Value} {blk : Blk} (h : BlkOK B ρ v blk) (hl : blk.live) (hb : hasBk v = true) : B ≤ bk v ∧ bk v < ρ.w.heap.size := by
  have lt : ∀ {x : Nat} {o : Obj}, ρ.w.heap[x]? = some o → x < ρ.w.heap.size := fun {x o} hx => by
    rcases Nat.lt_or_ge x ρ.w.heap.size with h | h
    · exact h
    · simp [Array.getElem?_eq_none h] at hx
  cases blk with
  | dead => exact hl.elim
  | box c =>
    obtain ⟨b', es, ty, rfl, e2, e3, e4⟩ := h
    exact ⟨e2, lt e3⟩
  | arr e k xs =>
    obtain ⟨es, ⟨_, h2⟩, _⟩ := h
    rcases h2 with ⟨rfl, _⟩ | ⟨g, cap, cur, rfl, h3, h4, _⟩
    · simp [hasBk] at hb
    · exact ⟨h3, lt h4⟩
  | it s pos =>
    obtain ⟨b', rfl, e2, e3, e4⟩ := h
    exact ⟨e2, lt e3⟩

theorem BlkOK.grow {X : Nat → Prop} {B : Nat} {H : List Blk} {pl : Nat → Value} {w w' : World} (hb : Below w.heap.size w w') {v : Value} {blk : Blk}
    (h : BlkOK B (ctx X H pl w) v blk) : BlkOK B (ctx X H pl w') v blk := by
  by_cases hl : blk.live
  · exact h.mono (ctx_grow hb) fun hv => hb.block _ (h.hasBk_lt hl hv).2
  · cases blk <;> first | trivial | exact absurd trivial hl

theorem Good.grow {X : Nat → Prop} {B : Nat} {W0 : Orig} {H : List Blk} {pl : Nat → Value} {w w' : World} (g : Good X B W0 H pl w) (hb : Below w.heap.size w w') : Good X B W0 H pl w' :=
  ⟨g.below.trans (hb.mono (Nat.le_trans g.base g.below.size)), g.base, fun id blk h => (g.ok id blk h).grow hb, g.inj, g.xlt,
    fun b h => (hb.block b (Nat.lt_of_lt_of_le (g.xlt b h) g.below.size)).trans (g.keepX b h), g.apart⟩

theorem Sim.grow {X : Nat → Prop} {B : Nat} {W0 : Orig} {s : St} {a : Act} {w w' : World} {pl : Nat → Value} (h : Sim X B W0 s a w pl) (hb : Below w.heap.size w w') : Sim X B W0 s a w' pl :=
  ⟨h.good.grow hb, h.defers, h.size, fun t x hx => RT.mono (ctx_grow hb) _ _ (h.tmps t x hx), h.le.trans (ctx_grow hb)⟩

/-- A value is laid into a temporary. -/
theorem Sim.put {X : Nat → Prop} {B : Nat} {W0 : Orig} {s : St} {a : Act} {w : World} {pl : Nat → Value} (h : Sim X B W0 s a w pl) {d : Nat} {x : LV} {v : Value}
    (hv : RT (ctx X s.heap pl w) x v) : Sim X B W0 { s with tmps := s.tmps.set d x } (a.put (some d) v) w pl := by
  refine ⟨h.good, h.defers, by simp [Act.put, h.size], fun t y hy => ?_, h.le⟩
  simp only [List.getElem?_set] at hy
  simp only [Act.put]
  split at hy
  · rename_i e
    subst e
    split at hy
    · rename_i hlt
      cases hy
      have : d < a.tmps.size := by rw [h.size]; exact hlt
      simp [Array.getD, this]
      exact hv
    · cases hy
  · rename_i e
    have := h.tmps t y hy
    simp only [Array.getD_eq_getD_getElem?, Array.getElem?_setIfInBounds_ne e] at this ⊢
    exact this

def upd (pl : Nat → Value) (id : Nat) (v : Value) : Nat → Value := fun i => if i = id then v else pl i
theorem upd_same (pl : Nat → Value) (id : Nat) (v : Value) : upd pl id v id = v := if_pos rfl
theorem upd_other {pl : Nat → Value} {id i : Nat} (v : Value) (h : i ≠ id) : upd pl id v i = pl i := if_neg h

theorem push_old {α : Type} {H : List α} {x : α} {id : Nat} (h : id < H.length) : (H ++ [x])[id]? = H[id]? := List.getElem?_append_left h
theorem push_new {α : Type} (H : List α) (x : α) : (H ++ [x])[H.length]? = some x := by simp

theorem lt_of_get {α : Type} {H : List α} {id : Nat} {x : α} (h : H[id]? = some x) : id < H.length := by
  rcases Nat.lt_or_ge id H.length with h' | h'
  · exact h'
  · simp [List.getElem?_eq_none h'] at h

/-- The handles that there were stand for what they stood for when a block is laid behind. -/
theorem hsOK_push {H : List Blk} {pl : Nat → Value} {blk : Blk} {u : Value} {id n : Nat} {v : Value} (h : hsOK H pl id n v) : hsOK (H ++ [blk]) (upd pl H.length u) id n v := by
  obtain ⟨h1, h2, h3⟩ := h
  refine ⟨by simp; omega, h2, fun e k xs hx hn => ?_⟩
  rw [push_old h1] at hx
  rw [upd_other _ (by omega)]
  exact h3 e k xs hx hn

theorem hpOK_push {H : List Blk} {pl : Nat → Value} {blk : Blk} {u : Value} {id n : Nat} {p : List Nat} {v : Value} (h : hpOK H pl id n p v) : hpOK (H ++ [blk]) (upd pl H.length u) id n p v := by
  obtain ⟨h1, h2, h3, h4, h5⟩ := h
  refine ⟨by simp; omega, h2, ?_, ?_, ?_⟩
  · intro c o hx ho; rw [push_old h1] at hx; rw [upd_other _ (by omega)]; exact h3 c o hx ho
  · intro e k xs o hx hn ho; rw [push_old h1] at hx; rw [upd_other _ (by omega)]; exact h4 e k xs o hx hn ho
  · intro s q hx; rw [push_old h1] at hx; rw [upd_other _ (by omega)]; exact h5 s q hx

theorem ctx_push {X : Nat → Prop} {B : Nat} {W0 : Orig} {H : List Blk} {pl : Nat → Value} {w w' : World} (_g : Good X B W0 H pl w) (hb : Below w.heap.size w w') {u : Value} {blk : Blk}
    (hu : hasBk u = true → w.heap.size ≤ bk u) : (ctx X H pl w).Le (ctx X (H ++ [blk]) (upd pl H.length u) w') := by
  refine ⟨hb.size, fun b hlt _ => hb.block b hlt, fun b hlt ho => ?_, fun _ _ _ h => hsOK_push h, fun _ _ _ _ h => hpOK_push h⟩
  rcases ho with ho | ⟨id, bl, h1, h2, h3, h4⟩
  · exact .inl ho
  by_cases e : id = H.length
  · subst e
    rw [upd_same] at h3 h4
    have := hu h3
    have : b < w.heap.size := hlt
    omega
  · have hlt' : id < H.length := by have := lt_of_get h1; simp at this; omega
    rw [push_old hlt'] at h1
    rw [upd_other _ e] at h3 h4
    exact .inr ⟨id, bl, h1, h2, h3, h4⟩

theorem Good.push {X : Nat → Prop} {B : Nat} {W0 : Orig} {H : List Blk} {pl : Nat → Value} {w w' : World} (g : Good X B W0 H pl w) (hb : Below w.heap.size w w') {u : Value} {blk : Blk}
    (hu : hasBk u = true → w.heap.size ≤ bk u) (hk : BlkOK B (ctx X (H ++ [blk]) (upd pl H.length u) w') u blk) : Good X B W0 (H ++ [blk]) (upd pl H.length u) w' := by
  have hl := ctx_push g hb (blk := blk) hu
  refine ⟨g.below.trans (hb.mono (Nat.le_trans g.base g.below.size)), g.base, fun id bl h => ?_, fun i j bi bj hi li hj lj ai aj hij => ?_, g.xlt,
    fun b h => (hb.block b (Nat.lt_of_lt_of_le (g.xlt b h) g.below.size)).trans (g.keepX b h), fun id bl h lv hv hx => ?_⟩
  · by_cases e : id = H.length
    · subst e
      rw [push_new] at h
      cases h
      rw [upd_same]
      exact hk
    · have hlt' : id < H.length := by have := lt_of_get h; simp at this; omega
      rw [push_old hlt'] at h
      rw [upd_other _ e]
      have hk0 := g.ok id bl h
      by_cases lv : bl.live
      · exact hk0.mono hl fun hv => hb.block _ (hk0.hasBk_lt lv hv).2
      · cases bl <;> first | trivial | exact absurd trivial lv
  · have old : ∀ {i : Nat} {bi : Blk}, (H ++ [blk])[i]? = some bi → bi.live → i ≠ H.length → hasBk (upd pl H.length u i) = true → bk (upd pl H.length u i) < w.heap.size := by
      intro i bi hi li e ai
      have hlt' : i < H.length := by have := lt_of_get hi; simp at this; omega
      rw [push_old hlt'] at hi
      rw [upd_other _ e] at ai ⊢
      exact ((g.ok i bi hi).hasBk_lt li ai).2
    by_cases ei : i = H.length
    · by_cases ej : j = H.length
      · omega
      · have h1 := old hj lj ej aj
        subst ei
        rw [upd_same] at ai
        have h2 := hu ai
        rw [upd_same] at hij
        omega
    · by_cases ej : j = H.length
      · have h1 := old hi li ei ai
        subst ej
        rw [upd_same] at aj
        have h2 := hu aj
        rw [upd_same] at hij
        omega
      · have hi' : i < H.length := by have := lt_of_get hi; simp at this; omega
        have hj' : j < H.length := by have := lt_of_get hj; simp at this; omega
        rw [push_old hi'] at hi
        rw [push_old hj'] at hj
        rw [upd_other _ ei] at ai hij
        rw [upd_other _ ej] at aj hij
        exact g.inj i j bi bj hi li hj lj ai aj hij
  · by_cases e : id = H.length
    · subst e
      rw [upd_same] at hv hx
      have := hu hv
      have := g.xlt _ hx
      have := g.below.size
      omega
    · have hlt' : id < H.length := by have := lt_of_get h; simp at this; omega
      rw [push_old hlt'] at h
      rw [upd_other _ e] at hv hx
      exact g.apart id bl h lv hv hx

theorem Sim.push {X : Nat → Prop} {B : Nat} {W0 : Orig} {s : St} {a : Act} {w w' : World} {pl : Nat → Value} (h : Sim X B W0 s a w pl) (hb : Below w.heap.size w w') {u : Value} {blk : Blk}
    (hu : hasBk u = true → w.heap.size ≤ bk u) (hk : BlkOK B (ctx X (s.heap ++ [blk]) (upd pl s.heap.length u) w') u blk) :
    Sim X B W0 { s with heap := s.heap ++ [blk] } a w' (upd pl s.heap.length u) :=
  ⟨h.good.push hb hu hk, h.defers, h.size, fun t x hx => RT.mono (ctx_push h.good hb hu) _ _ (h.tmps t x hx), h.le.trans (ctx_push h.good hb hu)⟩

end Go.Lg
