/- A logic of values: what a Go value reads as (LV), and how that reading stands to the model's values and memory. Over any program. -/
import Derived.Calls
import Derived.Below
import Derived.Laws.Cells
namespace Go.Lg
set_option linter.unusedVariables false
set_option linter.unusedSimpArgs false
open Go.RowKit

inductive LV where
  | undef
  | int (k : IntKind) (n : Int)
  | bool (b : Bool)
  | str (s : ByteArray)
  | nil
  | sl (xs : List LV)
  | own (e k : Nat) (xs : List LV)
  | st (fs : List LV)
  | tup (vs : List LV)
  | ref (c : LV)
  | clos (f : FuncId) (caps : List LV)
  | ifc (t : TypeId) (fs : List LV)
  | lit (v : Value)
  | hs (id n : Nat)
  | hp (id n : Nat) (path : List Nat)
  deriving Inhabited

mutual
def LV.size : LV → Nat
  | .st fs => LV.sizes fs
  | _ => 1
def LV.sizes : List LV → Nat
  | [] => 0
  | x :: xs => x.size + LV.sizes xs
end

/-- The cells from an address on. -/
def CellsAt (w : World) (ad : Addr) (es : List Value) : Prop :=
  ad.spot = none ∧ ∀ j v, es[j]? = some v → w.cell? ⟨ad.block, ad.off + j, none⟩ = some v

/-- What a reading leans on: the memory, the blocks that may yet be written, what handles stand for. -/
structure Ctx where
  w : World
  O : Nat → Prop
  hs : Nat → Nat → Value → Prop
  hp : Nat → Nat → List Nat → Value → Prop

/-- Without handles. -/
def Ctx.pure (ρ : Ctx) : Ctx := { ρ with hs := fun _ _ _ => False, hp := fun _ _ _ _ => False }

mutual
/-- A reading's cells. -/
def RC (ρ : Ctx) : LV → List Value → Prop
  | .undef, cs => ∃ v : Value, cs = [v] ∧ v.oneCell' = true
  | .int k n, cs => cs = [.int k n]
  | .bool b, cs => cs = [.bool b]
  | .lit v, cs => cs = [v] ∧ v.oneCell' = true
  | .str s, cs => cs = [.string s] ∧ s.size ≤ maxLen
  | .nil, cs => cs = [.slice none 0 0]
  | .sl xs, cs => ∃ a cap, cs = [.slice a xs.length cap] ∧ xs.length ≤ cap ∧ cap ≤ maxLen ∧
      (xs = [] ∨ ∃ ad es k, a = some ad ∧ ad.block < ρ.w.heap.size ∧ ¬ ρ.O ad.block ∧ RCs ρ.pure xs es ∧ CellsAt ρ.w ad es ∧ ∀ x ∈ xs, x.size = k)
  | .own _ _ _, _ => False
  | .st fs, cs => RCs ρ fs cs
  | .tup _, _ => False
  | .ref c, cs => ∃ ad es, cs = [.pointer (some ad)] ∧ ad.block < ρ.w.heap.size ∧ ¬ ρ.O ad.block ∧ RC ρ.pure c es ∧ CellsAt ρ.w ad es
  | .clos f caps, cs => ∃ vs : Array Value, cs = [.func (.func f) #[] vs] ∧ RCs ρ caps vs.toList
  | .ifc t fs, cs => ∃ vs : Array Value, cs = [.iface t (.agg vs)] ∧ RCs ρ fs vs.toList
  | .hs id n, cs => ∃ v, cs = [v] ∧ ρ.hs id n v
  | .hp id n path, cs => ∃ v, cs = [v] ∧ ρ.hp id n path v
def RCs (ρ : Ctx) : List LV → List Value → Prop
  | [], cs => cs = []
  | x :: xs, cs => ∃ c1 c2, cs = c1 ++ c2 ∧ RC ρ x c1 ∧ RCs ρ xs c2
end

mutual
theorem RC.len {ρ : Ctx} : ∀ (x : LV) (cs : List Value), RC ρ x cs → cs.length = x.size
  | .undef, _, h => by simp only [RC] at h; obtain ⟨v, h, _⟩ := h; subst h; rfl
  | .int k n, _, h => by simp only [RC] at h; subst h; rfl
  | .bool b, _, h => by simp only [RC] at h; subst h; rfl
  | .lit v, _, h => by simp only [RC] at h; rw [h.1]; rfl
  | .str s, _, h => by simp only [RC] at h; rw [h.1]; rfl
  | .nil, _, h => by simp only [RC] at h; subst h; rfl
  | .sl xs, _, h => by simp only [RC] at h; obtain ⟨a, c, h, _⟩ := h; subst h; rfl
  | .own _ _ _, _, h => by simp [RC] at h
  | .st fs, cs, h => by simp only [RC] at h; simp only [LV.size]; exact RCs.len fs cs h
  | .tup _, _, h => by simp [RC] at h
  | .ref c, _, h => by simp only [RC] at h; obtain ⟨a, c, h, _⟩ := h; subst h; rfl
  | .clos f caps, _, h => by simp only [RC] at h; obtain ⟨vs, h, _⟩ := h; subst h; rfl
  | .ifc f caps, _, h => by simp only [RC] at h; obtain ⟨vs, h, _⟩ := h; subst h; rfl
  | .hs id n, _, h => by simp only [RC] at h; obtain ⟨v, h, _⟩ := h; subst h; rfl
  | .hp id n p, _, h => by simp only [RC] at h; obtain ⟨v, h, _⟩ := h; subst h; rfl
theorem RCs.len {ρ : Ctx} : ∀ (xs : List LV) (cs : List Value), RCs ρ xs cs → cs.length = LV.sizes xs
  | [], _, h => by simp only [RCs] at h; subst h; rfl
  | x :: xs, cs, h => by
    simp only [RCs] at h
    obtain ⟨c1, c2, rfl, h1, h2⟩ := h
    simp only [List.length_append, LV.sizes, RC.len x c1 h1, RCs.len xs c2 h2]
end

/-- One context serves for another: old blocks that may not be written hold what they held. -/
structure Ctx.Le (ρ ρ' : Ctx) : Prop where
  size : ρ.w.heap.size ≤ ρ'.w.heap.size
  keep : ∀ b, b < ρ.w.heap.size → ¬ ρ.O b → ρ'.w.heap[b]? = ρ.w.heap[b]?
  own : ∀ b, b < ρ.w.heap.size → ρ'.O b → ρ.O b
  hs : ∀ id n v, ρ.hs id n v → ρ'.hs id n v
  hp : ∀ id n p v, ρ.hp id n p v → ρ'.hp id n p v

theorem Ctx.Le.pure {ρ ρ' : Ctx} (h : ρ.Le ρ') : ρ.pure.Le ρ'.pure := ⟨h.size, h.keep, h.own, fun _ _ _ h => h, fun _ _ _ _ h => h⟩
theorem Ctx.pure_le (ρ : Ctx) : ρ.pure.Le ρ := ⟨Nat.le_refl _, fun _ _ _ => rfl, fun _ _ h => h, fun _ _ _ h => h.elim, fun _ _ _ _ h => h.elim⟩

theorem cell_of_block {w w' : World} {a : Addr} (h : w'.heap[a.block]? = w.heap[a.block]?) : w'.cell? a = w.cell? a := by
  unfold World.cell?; rw [h]

theorem CellsAt.keep {w w' : World} {ad : Addr} {es : List Value} (h : CellsAt w ad es) (hb : w'.heap[ad.block]? = w.heap[ad.block]?) : CellsAt w' ad es :=
  ⟨h.1, fun j v hv => by rw [cell_of_block (w := w) (by simpa using hb)]; exact h.2 j v hv⟩

mutual
theorem RC.mono {ρ ρ' : Ctx} (hl : ρ.Le ρ') : ∀ (x : LV) (cs : List Value), RC ρ x cs → RC ρ' x cs
  | .undef, _, h => by simp only [RC] at h ⊢; exact h
  | .int k n, _, h => by simp only [RC] at h ⊢; exact h
  | .bool b, _, h => by simp only [RC] at h ⊢; exact h
  | .lit b, _, h => by simp only [RC] at h ⊢; exact h
  | .str s, _, h => by simp only [RC] at h ⊢; exact h
  | .nil, _, h => by simp only [RC] at h ⊢; exact h
  | .sl xs, _, h => by
    simp only [RC] at h ⊢
    obtain ⟨a, cap, rfl, h1, h2, h3⟩ := h
    refine ⟨a, cap, rfl, h1, h2, ?_⟩
    rcases h3 with h3 | ⟨ad, es, k, rfl, hb, ho, hr, hc, hu⟩
    · exact .inl h3
    · exact .inr ⟨ad, es, k, rfl, Nat.lt_of_lt_of_le hb hl.size, fun o => ho (hl.own _ hb o), RCs.mono hl.pure xs es hr, hc.keep (hl.keep _ hb ho), hu⟩
  | .own _ _ _, _, h => by simp [RC] at h
  | .st fs, cs, h => by simp only [RC] at h ⊢; exact RCs.mono hl fs cs h
  | .tup _, _, h => by simp [RC] at h
  | .ref c, _, h => by
    simp only [RC] at h ⊢
    obtain ⟨ad, es, rfl, hb, ho, hr, hc⟩ := h
    exact ⟨ad, es, rfl, Nat.lt_of_lt_of_le hb hl.size, fun o => ho (hl.own _ hb o), RC.mono hl.pure c es hr, hc.keep (hl.keep _ hb ho)⟩
  | .clos f caps, _, h => by
    simp only [RC] at h ⊢
    obtain ⟨vs, rfl, h⟩ := h
    exact ⟨vs, rfl, RCs.mono hl caps _ h⟩
  | .ifc f caps, _, h => by
    simp only [RC] at h ⊢
    obtain ⟨vs, rfl, h⟩ := h
    exact ⟨vs, rfl, RCs.mono hl caps _ h⟩
  | .hs id n, _, h => by
    simp only [RC] at h ⊢
    obtain ⟨v, rfl, h⟩ := h
    exact ⟨v, rfl, hl.hs _ _ _ h⟩
  | .hp id n p, _, h => by
    simp only [RC] at h ⊢
    obtain ⟨v, rfl, h⟩ := h
    exact ⟨v, rfl, hl.hp _ _ _ _ h⟩
theorem RCs.mono {ρ ρ' : Ctx} (hl : ρ.Le ρ') : ∀ (xs : List LV) (cs : List Value), RCs ρ xs cs → RCs ρ' xs cs
  | [], _, h => by simp only [RCs] at h ⊢; exact h
  | x :: xs, _, h => by
    simp only [RCs] at h ⊢
    obtain ⟨c1, c2, rfl, h1, h2⟩ := h
    exact ⟨c1, c2, rfl, RC.mono hl x c1 h1, RCs.mono hl xs c2 h2⟩
end

theorem RCs.append {ρ : Ctx} : ∀ (xs ys : List LV) (c d : List Value), RCs ρ xs c → RCs ρ ys d → RCs ρ (xs ++ ys) (c ++ d)
  | [], ys, c, d, h, k => by simp only [RCs] at h; subst h; simpa using k
  | x :: xs, ys, c, d, h, k => by
    simp only [RCs] at h
    obtain ⟨c1, c2, rfl, h1, h2⟩ := h
    simp only [List.cons_append, RCs]
    exact ⟨c1, c2 ++ d, by simp, h1, RCs.append xs ys c2 d h2 k⟩

theorem RCs.split {ρ : Ctx} : ∀ (xs ys : List LV) (c : List Value), RCs ρ (xs ++ ys) c → ∃ c1 c2, c = c1 ++ c2 ∧ RCs ρ xs c1 ∧ RCs ρ ys c2
  | [], ys, c, h => ⟨[], c, rfl, by simp only [RCs], h⟩
  | x :: xs, ys, c, h => by
    simp only [List.cons_append, RCs] at h
    obtain ⟨a, b, rfl, h1, h2⟩ := h
    obtain ⟨d, e, rfl, h3, h4⟩ := RCs.split xs ys b h2
    refine ⟨a ++ d, e, by simp, ?_, h4⟩
    simp only [RCs]
    exact ⟨a, d, rfl, h1, h3⟩

theorem sizes_append : ∀ (xs ys : List LV), LV.sizes (xs ++ ys) = LV.sizes xs + LV.sizes ys
  | [], ys => by simp [LV.sizes]
  | x :: xs, ys => by simp only [List.cons_append, LV.sizes, sizes_append xs ys]; omega

theorem sizes_uniform {k : Nat} : ∀ (xs : List LV), (∀ x ∈ xs, x.size = k) → LV.sizes xs = xs.length * k
  | [], _ => by simp [LV.sizes]
  | x :: xs, h => by
    have h1 := h x (by simp)
    have h2 := sizes_uniform xs (fun y hy => h y (by simp [hy]))
    simp only [LV.sizes, h1, h2, List.length_cons, Nat.succ_mul]; omega

/-- An element of a list that is read off cells, with its place. -/
theorem RCs.get {ρ : Ctx} {xs : List LV} {c : List Value} (h : RCs ρ xs c) {i : Nat} {x : LV} (hi : xs[i]? = some x) :
    ∃ c1 d c2, c = c1 ++ d ++ c2 ∧ RCs ρ (xs.take i) c1 ∧ RC ρ x d ∧ RCs ρ (xs.drop (i + 1)) c2 ∧ c1.length = LV.sizes (xs.take i) := by
  have hlt : i < xs.length := by
    rcases Nat.lt_or_ge i xs.length with h | h
    · exact h
    · simp [List.getElem?_eq_none h] at hi
  have e : xs = xs.take i ++ (x :: xs.drop (i + 1)) := by
    have : xs[i] = x := by simpa [List.getElem?_eq_getElem hlt] using hi
    rw [← this, List.getElem_cons_drop, List.take_append_drop]
  rw [e] at h
  obtain ⟨c1, c2, rfl, h1, h2⟩ := RCs.split _ _ _ h
  simp only [RCs] at h2
  obtain ⟨d, c3, rfl, h3, h4⟩ := h2
  exact ⟨c1, d, c3, by simp, h1, h3, h4, RCs.len _ _ h1⟩

theorem CellsAt.mid {w : World} {ad : Addr} {c1 d c2 : List Value} (h : CellsAt w ad (c1 ++ d ++ c2)) : CellsAt w ⟨ad.block, ad.off + c1.length, none⟩ d := by
  refine ⟨rfl, fun j v hv => ?_⟩
  have hj : j < d.length := by
    rcases Nat.lt_or_ge j d.length with h | h
    · exact h
    · simp [List.getElem?_eq_none h] at hv
  have := h.2 (c1.length + j) v (by
    rw [List.append_assoc, List.getElem?_append_right (by omega), Nat.add_sub_cancel_left, List.getElem?_append_left hj]; exact hv)
  simpa [Nat.add_assoc] using this

/-! ### Nothing that was drawn is undrawn -/
theorem ask_drawn {α : Type} : ∀ (k : Ask α) (w : World), w.drawn ≤ (w.ask k).2.drawn
  | .done a, w => Nat.le_refl _
  | .ask what range k, w => by
    unfold World.ask
    simp only
    split
    · exact ask_drawn (k 0) w
    · exact Nat.le_trans (Nat.le_succ _) (ask_drawn (k _) { w with drawn := w.drawn + 1 })
theorem sys_drawn (w : World) (c : Sys) : w.drawn ≤ (w.sys c).2.drawn := by
  unfold World.sys
  have h := ask_drawn (Kernel.perform c w.os) w
  split
  · exact Nat.le_refl _
  · rename_i r os w1 _ e
    rw [e] at h
    exact h
theorem farStore_drawn {P : Program} {w w' : World} {a : Addr} {v : Value} {b : Bool} {l : List Addr} (h : w.farStore P a v b = .ok (w', l)) : w'.drawn = w.drawn := by
  unfold World.farStore at h
  split at h
  · split at h
    · rename_i r e
      cases h
      unfold World.viewStore at e
      simp only [bind, Except.bind, pure, Except.pure] at e
      repeat' (split at e <;> try cases e)
      all_goals rfl
    · cases h
  · cases h
theorem run_drawn {α : Type} {P : Program} (s : Sem α) : ∀ (w w' : World) (x : α), s.run P w = .ok x w' → w.drawn ≤ w'.drawn := by
  induction s with
  | pure a => intro w w' x h; simp only [Sem.run] at h; cases h; exact Nat.le_refl _
  | load m a k ih =>
    intro w w' x h
    simp only [Sem.run] at h
    split at h
    · exact ih _ w w' x h
    · split at h
      · exact ih _ w w' x h
      · cases h
  | store m a v k ih =>
    intro w w' x h
    cases v
    all_goals
      simp only [Sem.run] at h
      first
      | (cases h; done)
      | (split at h
         · split at h
           · cases h
           · exact ih (w.setCell a _) w' x h
         · split at h
           · rename_i w1 l e
             have := ih w1 w' x h
             rw [farStore_drawn e] at this
             exact this
           · cases h)
  | new o k ih => intro w w' x h; simp only [Sem.run] at h; exact ih _ { w with heap := w.heap.push o } w' x h
  | shape r k ih => intro w w' x h; simp only [Sem.run] at h; exact ih _ w w' x h
  | freeze a n k ih =>
    intro w w' x h
    simp only [Sem.run] at h
    have := ih (w.freeze a n) w' x h
    have e : (w.freeze a n).drawn = w.drawn := by unfold World.freeze; first | rfl | (split <;> rfl)
    rw [e] at this; exact this
  | frozen a k ih => intro w w' x h; simp only [Sem.run] at h; exact ih _ w w' x h
  | getObj r k ih =>
    intro w w' x h
    simp only [Sem.run] at h
    split at h
    · cases h
    · exact ih _ w w' x h
    · cases h
  | setObj r o k ih =>
    intro w w' x h
    simp only [Sem.run] at h
    split at h
    · cases h
    · exact ih { w with heap := w.heap.setIfInBounds r o } w' x h
    · cases h
  | choose q k ih =>
    intro w w' x h
    simp only [Sem.run] at h
    split at h
    · exact ih 0 w w' x h
    · exact Nat.le_trans (Nat.le_succ _) (ih _ { w with drawn := w.drawn + 1 } w' x h)
  | sys c k ih => intro w w' x h; simp only [Sem.run] at h; exact Nat.le_trans (sys_drawn w c) (ih _ (w.sys c).2 w' x h)
  | program k ih => intro w w' x h; simp only [Sem.run] at h; exact ih P w w' x h
  | mark m k ih => intro w w' x h; simp only [Sem.run] at h; exact ih w w' x h
  | halt hh => intro w w' x h; simp only [Sem.run] at h; cases h

/-- Below block number B the second world is as the first was; the streams are as they were; no block has gone; nothing that was drawn is undrawn. -/
structure Below (B : Nat) (w w' : World) : Prop where
  os : w'.os = w.os
  tape : w'.tape = w.tape
  output : w'.output = w.output
  size : w.heap.size ≤ w'.heap.size
  block : ∀ k, k < B → w'.heap[k]? = w.heap[k]?
  inc : w.drawn ≤ w'.drawn
theorem Below.old {B : Nat} {w w' : World} (h : Below B w w') : RowKit.Below B w w' := ⟨h.os, h.tape, h.output, h.size, h.block⟩
theorem Below.of {B : Nat} {w w' : World} (h : RowKit.Below B w w') (k : w.drawn ≤ w'.drawn) : Below B w w' := ⟨h.os, h.tape, h.output, h.size, h.block, k⟩
theorem Below.refl (B : Nat) (w : World) : Below B w w := ⟨rfl, rfl, rfl, Nat.le_refl _, fun _ _ => rfl, Nat.le_refl _⟩
theorem Below.trans {B : Nat} {a b c : World} (h : Below B a b) (k : Below B b c) : Below B a c := .of (h.old.trans k.old) (Nat.le_trans h.inc k.inc)
theorem Below.mono {B B' : Nat} {w w' : World} (h : Below B w w') (hB : B' ≤ B) : Below B' w w' := .of (h.old.mono hB) h.inc
theorem Below.drew {B : Nat} {a w : World} (h : Below B a w) : Below B a w.drew := .of h.old.drew (Nat.le_trans h.inc (Nat.le_succ _))
theorem Below.alloc {B : Nat} {a w : World} (h : Below B a w) (hB : B ≤ w.heap.size) (o : Obj) : Below B a (w.alloc o) := .of (h.old.alloc hB o) h.inc
theorem Below.setCell {B : Nat} {a w : World} (h : Below B a w) {p : Addr} (hp : B ≤ p.block) (u : Value) : Below B a (w.setCell p u) := .of (h.old.setCell hp u) h.inc
theorem Below.cell {B : Nat} {w w' : World} (h : Below B w w') {p : Addr} (hp : p.block < B) : w'.cell? p = w.cell? p := h.old.cell hp
theorem Below.frozen {B : Nat} {w w' : World} (h : Below B w w') {p : Addr} (hp : p.block < B) : w'.frozen? p = w.frozen? p := h.old.frozen hp
theorem Below.frame {W w' : World} (h : Below W.heap.size W w') (may : MemPlace → Prop) : W.keptBut w' may := h.old.frame may
theorem Below.same {W w' : World} (h : Below W.heap.size W w') {p : MemPlace} (hp : p.block < W.heap.size) : W.sameAt w' p := h.old.same hp

/-- What a run may lean on of the world that was there when it began: told by whoever takes the logic to a program. -/
class GI where
  low : Nat
  F : World → Prop
  keepF : ∀ {B : Nat} {w w' : World}, low ≤ B → Below B w w' → F w → F w'
def GI.I [GI] (B : Nat) (w : World) : Prop := GI.low ≤ B ∧ GI.F w
theorem GI.keep [GI] {B : Nat} {w w' : World} (h : Below B w w') (k : GI.I B w) : GI.I B w' := ⟨k.1, GI.keepF k.1 h k.2⟩
theorem GI.mono [GI] {B B' : Nat} {w : World} (h : B ≤ B') (k : GI.I B w) : GI.I B' w := ⟨Nat.le_trans k.1 h, k.2⟩

end Go.Lg

