/- The same with a call that writes what it is lent: what the head reads lies apart from it. -/
import Derived.Test.YtbiagkccgijdlaaGreatALgZC
namespace Go.Lg
variable [GI]
set_option linter.unusedSectionVars false
set_option linter.unusedVariables false
set_option linter.unusedSimpArgs false
open Go.RowKit

/-- Grown, and nothing old has turned but at these blocks. -/
def FrL (L : Nat → Prop) (w w' : World) : Prop := w.heap.size ≤ w'.heap.size ∧ ∀ b, b < w.heap.size → ¬ L b → w'.heap[b]? = w.heap[b]?
theorem FrL.refl (L : Nat → Prop) (w : World) : FrL L w w := ⟨Nat.le_refl _, fun _ _ _ => rfl⟩
theorem FrL.trans {L : Nat → Prop} {a b c : World} (h : FrL L a b) (k : FrL L b c) : FrL L a c :=
  ⟨Nat.le_trans h.1 k.1, fun i hi hl => (k.2 i (Nat.lt_of_lt_of_le hi h.1) hl).trans (h.2 i hi hl)⟩

section
variable {P : Program} {L : Nat → Prop} {ops : Array Oper} {md : Region.Mode}

/-- It yields this, here and in any world that has only grown. -/
def StR (P : Program) (L : Nat → Prop) (o : Oper) (v : Value) (a : Act) (w : World) : Prop := ∀ w', FrL L w w' → (execOp a.eval o).run P w' = .ok (.value v) w'
theorem StR.grow {o : Oper} {v : Value} {a : Act} {w w' : World} (h : StR P L o v a w) (hb : FrL L w w') : StR P L o v a w' :=
  fun w'' h2 => h w'' (hb.trans h2)

def Oper.stR (P : Program) (L : Nat → Prop) (o : Oper) (K : Act → World → Prop) (a : Act) (w : World) : Prop := match (execOp a.eval o).run P w with
  | .ok (.value v) w' => w' = w ∧ K (a.put o.dst v) w
  | .ok (.enter f args) w' => w' = w ∧ Calls P f args w fun e w'' => ∃ v, e = .returned v ∧ FrL L w w'' ∧ K (a.put o.dst v) w''
  | _ => False
def stRi (P : Program) (L : Nat → Prop) (ops : Array Oper) (i : Nat) (K : Act → World → Prop) (a : Act) (w : World) : Prop := match ops[i]? with
  | none => False
  | some o => Region.wanted o (yielded ops a.tmps) = true ∧ Oper.stR P L o K a w
theorem Oper.stR_mono {o : Oper} {K K' : Act → World → Prop} {a : Act} {w : World} (hk : ∀ a w, K a w → K' a w) (h : Oper.stR P L o K a w) : Oper.stR P L o K' a w := by
  unfold Oper.stR at *
  generalize (execOp a.eval o).run P w = r at *
  cases r with
  | ok n w' =>
    cases n <;> simp only at h ⊢
    case value v => exact ⟨h.1, hk _ _ h.2⟩
    case enter f args => exact ⟨h.1, h.2.mono fun e w'' ⟨v, h1, h2, h3⟩ => ⟨v, h1, h2, hk _ _ h3⟩⟩
    all_goals exact h
  | halt x w' => exact h
theorem stRi_mono {i : Nat} {K K' : Act → World → Prop} {a : Act} {w : World} (hk : ∀ a w, K a w → K' a w) (h : stRi P L ops i K a w) : stRi P L ops i K' a w := by
  unfold stRi at *
  split
  · rename_i h0; simp only [h0] at h
  · rename_i o ho; simp only [ho] at h; exact ⟨h.1, Oper.stR_mono hk h.2⟩
theorem wpOp_of_stRi {i : Nat} {K K' : Act → World → Prop} {Q : Exit → Act → World → Prop} {a : Act} {w : World} (hk : ∀ a w, K a w → K' a w) (h : stRi P L ops i K a w) : wpOp P ops Q i K' a w := by
  unfold stRi at h
  unfold wpOp
  split
  · rename_i h0; simp only [h0] at h
  · rename_i o ho
    simp only [ho] at h
    rw [if_pos h.1]
    left
    have h2 := h.2
    unfold Oper.stR at h2
    unfold Oper.wp
    generalize (execOp a.eval o).run P w = r at *
    cases r with
    | ok n w' =>
      cases n <;> simp only at h2
      case value v => obtain ⟨rfl, h3⟩ := h2; exact hk _ _ h3
      case enter f args =>
        obtain ⟨rfl, h3⟩ := h2
        exact h3.mono fun e w'' ⟨v, h4, _, h5⟩ => by subst h4; exact hk _ _ h5
      all_goals exact h2.elim
    | halt x w' => exact h2.elim
theorem StR.stRi {i : Nat} {o : Oper} {v : Value} {a : Act} {w : World} (hi : ops[i]? = some o) (hg : o.guard = none) (hy : StR P L o v a w) {K : Act → World → Prop} (h : K (a.put o.dst v) w) : stRi P L ops i K a w := by
  unfold Go.Lg.stRi
  simp only [hi]
  refine ⟨by simp [Region.wanted, hg], ?_⟩
  unfold Oper.stR
  rw [hy w (FrL.refl _ _)]
  exact ⟨rfl, h⟩
theorem stRi_put {j : Nat} {oi oj : Oper} {v : Value} (hj : ops[j]? = some oj) (hap : oi.apart ops oj = true) (hsi : ∀ cs b, oi.op ≠ .select cs b) (hsj : ∀ cs b, oj.op ≠ .select cs b)
    {K : Act → World → Prop} {a : Act} {w : World} (hy : StR P L oi v a w) (h : stRi P L ops j K (a.put oi.dst v) w) : stRi P L ops j (fun a' w' => StR P L oi v a' w' ∧ K (a'.put oi.dst v) w') a w := by
  obtain ⟨h1, h2, h3⟩ := Oper.apart_spec hap
  have keep : ∀ (u : Value) (w' : World), FrL L w w' → StR P L oi v (a.put oj.dst u) w' := fun u w' hb w'' hb' => by
    rw [execOp_put oi hsi a oj.dst u h3]
    exact hy.grow hb w'' hb'
  unfold stRi at *
  simp only [hj] at *
  rw [wanted_put oj a oi.dst v h1] at h
  refine ⟨h.1, ?_⟩
  have h4 := h.2
  unfold Oper.stR at *
  rw [execOp_put oj hsj a oi.dst v h1] at h4
  generalize (execOp a.eval oj).run P w = r at *
  cases r with
  | ok n w' =>
    cases n <;> simp only at h4 ⊢
    case value u => exact ⟨h4.1, keep u w (FrL.refl _ _), by rw [← Act.put_comm a v u h2]; exact h4.2⟩
    case enter f args =>
      exact ⟨h4.1, h4.2.mono fun e w'' ⟨u, k1, k2, k3⟩ => ⟨u, k1, k2, keep u w'' k2, by rw [← Act.put_comm a v u h2]; exact k3⟩⟩
    all_goals exact h4
  | halt x w' => exact h4

def wpAnyR (P : Program) (L : Nat → Prop) (md : Region.Mode) (ops : Array Oper) (n : Nat) (G : Array Bool → Act → World → Prop) : Nat → Array Bool → Act → World → Prop
  | 0, listed, a, w => G listed a w
  | f + 1, listed, a, w => Region.ready md ops listed ≠ [] ∧ ∀ i ∈ Region.ready md ops listed, i < n ∧ stRi P L ops i (wpAnyR P L md ops n G f (listed.setIfInBounds i true)) a w
theorem wpAny_of_headR {n g : Nat} {G : Array Bool → Act → World → Prop} {Q : Exit → Act → World → Prop} (hL : ∀ listed a w, G listed a w → wpAny P md ops Q g listed a w) :
    ∀ (f : Nat) (listed : Array Bool) (a : Act) (w : World), wpAnyR P L md ops n G f listed a w → wpAny P md ops Q (f + g) listed a w
  | 0, listed, a, w, h => by rw [Nat.zero_add]; exact hL _ _ _ h
  | f + 1, listed, a, w, h => by
    rw [show f + 1 + g = (f + g) + 1 by omega]
    exact ⟨fun h0 => absurd h0 h.1, fun i hi => wpOp_of_stRi (fun a' w' h' => wpAny_of_headR hL f _ a' w' h') (h.2 i hi).2⟩

theorem wpAnyR_first {n i : Nat} {oi : Oper} {v : Value} {G : Array Bool → Act → World → Prop} (hi : ops[i]? = some oi) (hg : oi.guard = none) (hsel : ∀ (j : Nat) (o : Oper) cs b, ops[j]? = some o → o.op ≠ .select cs b)
    (hs : Region.sinkB md ops n = true) (hc : Region.chainB md ops n = true) (hn : n < ops.size) (hin : i < n)
    (hdone : ∀ listed a w, G listed a w → ∀ j ∈ Region.ready md ops listed, n ≤ j) :
    ∀ (f : Nat) (listed : Array Bool) (a : Act) (w : World), HeadInv md ops n listed →
      (∀ j oj, ops[j]? = some oj → j ≠ i → listed.getD j true = false → (∀ e ∈ oj.after, Region.binds md e = true → e.on ≠ i) → oi.apart ops oj = true) →
      i ∈ Region.ready md ops listed → StR P L oi v a w →
      wpAnyR P L md ops n G f (listed.setIfInBounds i true) (a.put oi.dst v) w → wpAnyR P L md ops n G (f + 1) listed a w := by
  intro f
  induction f with
  | zero =>
    intro listed a w inv _ hr hy H
    have hun := (mem_ready.1 hr).1
    refine ⟨fun h => (by rw [h] at hr; cases hr), fun j hj => ?_⟩
    have hjn : j < n := by
      rcases Nat.lt_or_ge j n with h | h
      · exact h
      · exact absurd hj (tail_waits hs hc hn inv _ i rfl hin hun j h)
    refine ⟨hjn, ?_⟩
    by_cases hji : j = i
    · subst hji; exact hy.stRi hi hg H
    · have := hdone _ _ _ H j (ready_mono hj hji)
      omega
  | succ f ih =>
    intro listed a w inv hfree hr hy H
    have hun := (mem_ready.1 hr).1
    refine ⟨fun h => (by rw [h] at hr; cases hr), fun j hj => ?_⟩
    have hjn : j < n := by
      rcases Nat.lt_or_ge j n with h | h
      · exact h
      · exact absurd hj (tail_waits hs hc hn inv _ i rfl hin hun j h)
    refine ⟨hjn, ?_⟩
    by_cases hji : j = i
    · subst hji; exact hy.stRi hi hg H
    · have h1 := (H.2 j (ready_mono hj hji)).2
      obtain ⟨hjun, oj, hoj, hall⟩ := mem_ready.1 hj
      have hnot : ∀ e ∈ oj.after, Region.binds md e = true → e.on ≠ i := fun e he hb heq => by
        have h1 := hall e he hb
        rw [heq, getD_both hun] at h1
        cases h1
      have h2 := stRi_put hoj (hfree j oj hoj hji hjun hnot) (fun cs b => hsel i oi cs b hi) (fun cs b => hsel j oj cs b hoj) hy h1
      have hfree' : ∀ k ok, ops[k]? = some ok → k ≠ i → (listed.setIfInBounds j true).getD k true = false →
          (∀ e ∈ ok.after, Region.binds md e = true → e.on ≠ i) → oi.apart ops ok = true := fun k ok hk hki hun hno => by
        refine hfree k ok hk hki ?_ hno
        by_cases hjk : j = k
        · subst hjk; exact hjun
        · rw [getD_set_ne true hjk] at hun; exact hun
      refine stRi_mono (fun a' w' h3 => ih (listed.setIfInBounds j true) a' w' (inv.set hj hjn) hfree' (ready_mono hr (Ne.symm hji)) h3.1 ?_) h2
      rw [Array.setIfInBounds_comm _ _ hji]
      exact h3.2

/-- The head in the order of the text: it reads, and calls last. -/
def hdRunR (P : Program) (L : Nat → Prop) (oc : Oper) (T : Act → World → Prop) : List Oper → Act → World → Prop
  | [], a, w => ∃ g vs, (execOp a.eval oc).run P w = .ok (.enter g vs) w ∧ Calls P g vs w fun e w'' => ∃ v, e = .returned v ∧ FrL L w w'' ∧ T (a.put oc.dst v) w''
  | o :: l, a, w => o.guard = none ∧ ∃ v, StR P L o v a w ∧ hdRunR P L oc T l (a.put o.dst v) w

theorem wpAnyR_lex {n g : Nat} {oc : Oper} {T : Act → World → Prop} (hsel : Region.noSelect ops = true) (hs : Region.sinkB md ops n = true) (hc : Region.chainB md ops n = true) (hn : n < ops.size) (hgc : oc.guard = none) (hoc : ops[n - 1]? = some oc) :
    ∀ (l : List Oper) (k : Nat) (listed : Array Bool) (a : Act) (w : World), (∀ j, j < l.length → l[j]? = ops[k + j]?) → k + l.length + 1 = n → HeadInv md ops n listed → (∀ j, j < k → listed.getD j true = true) →
    Region.lexHead md ops g (l.length + 1) k listed = true → hdRunR P L oc T l a w →
    wpAnyR P L md ops n (fun listed' a' w' => Region.seqB md ops g n listed' = true ∧ T a' w') (l.length + 1) listed a w
  | [], k, listed, a, w, _, hk, inv, hall, hB, h => by
    simp only [List.length_nil, Nat.zero_add, Nat.add_zero] at hk hB ⊢
    simp only [Region.lexHead, Bool.and_eq_true] at hB
    obtain ⟨⟨hr, _⟩, hB'⟩ := hB
    have hr' : k ∈ Region.ready md ops listed := by simpa using hr
    have hun := (mem_ready.1 hr').1
    refine ⟨fun h => (by rw [h] at hr'; cases hr'), fun i hi => ?_⟩
    have hin : i < n := by
      rcases Nat.lt_or_ge i n with h | h
      · exact h
      · exact absurd hi (tail_waits hs hc hn inv _ k rfl (by omega) hun i h)
    have hik : i = k := by
      have h1 := (mem_ready.1 hi).1
      rcases Nat.lt_or_ge i k with h | h
      · rw [hall i h] at h1; cases h1
      · omega
    subst hik
    refine ⟨hin, ?_⟩
    have hk' : n - 1 = i := by omega
    rw [hk'] at hoc
    unfold stRi
    simp only [hoc]
    refine ⟨by simp [Region.wanted, hgc], ?_⟩
    obtain ⟨g', vs, h1, h2⟩ := h
    unfold Oper.stR
    rw [h1]
    refine ⟨rfl, h2.mono fun e w'' ⟨v, k1, k2, k3⟩ => ⟨v, k1, k2, ?_, k3⟩⟩
    rw [hk] at hB'
    exact hB'
  | o :: l, k, listed, a, w, hl, hk, inv, hall, hB, h => by
    have h0 : ops[k]? = some o := by simpa using (hl 0 (by simp)).symm
    rw [List.length_cons] at hB ⊢
    rw [Region.lexHead] at hB
    simp only [Bool.and_eq_true] at hB
    obtain ⟨⟨hr, hf⟩, hB'⟩ := hB
    have hkn : k < n := by simp only [List.length_cons] at hk; omega
    have hr' : k ∈ Region.ready md ops listed := by simpa using hr
    obtain ⟨hgo, v, hy, hK⟩ := h
    have hkl : k < listed.size := by rw [inv.size]; omega
    refine wpAnyR_first h0 hgo (Region.noSelect_spec hsel) hs hc hn hkn (fun listed' a' w' hL => seqB_ready hL.1) (l.length + 1) listed a w inv (Region.free_spec h0 hf) hr' hy
      (wpAnyR_lex hsel hs hc hn hgc hoc l (k + 1) _ _ _ (fun j hj => by have := hl (j + 1) (by simp; omega); simpa [Nat.add_assoc, Nat.add_comm 1 j] using this) (by simp only [List.length_cons] at hk; omega) (inv.set hr' hkn) (fun j hj => ?_) hB' hK)
    by_cases e : j = k
    · subst e; simp [hkl]
    · rw [getD_set_ne true (Ne.symm e)]; exact hall j (by omega)

theorem wp_region_callR_tail {Q : Exit → Act → World → Prop} {a : Act} {w : World} {l : List Oper} {oc : Oper} (n : Nat) (hB : Region.lexTailB .any l.toArray n = true) (h0 : 0 < n) (hgc : oc.guard = none) (hoc : l[n - 1]? = some oc)
    (h : hdRunR P L oc (fun a' w' => wpList P l.toArray Q (l.drop n) a' w') (l.take (n - 1)) a { w with drawn := w.drawn + 1 }) : RgD P l.toArray Q a w := by
  simp only [Region.lexTailB, Bool.and_eq_true, decide_eq_true_eq] at hB
  obtain ⟨⟨⟨⟨hsel, hn⟩, hs⟩, hc⟩, hlex⟩ := hB
  have hn' : n < l.length := by simpa using hn
  have htl : (l.take (n - 1)).length = n - 1 := by simp; omega
  have hdl : (l.drop n).length = l.toArray.size - n := by simp
  have inv0 : HeadInv .any l.toArray n (Array.replicate l.toArray.size false) :=
    ⟨by simp, fun j oj _ hl => (by rw [getD_replicate_false] at hl; cases hl), fun t _ ht => getD_in (by simpa using ht) (getD_replicate_false _ _)⟩
  have H := wpAnyR_lex (md := .any) (g := l.toArray.size - n) hsel hs hc hn hgc (by simpa using hoc) (l.take (n - 1)) 0 _ a _ (fun j hj => by
    have hj' : j < n - 1 := by rw [htl] at hj; exact hj
    simp [hj']) (by rw [htl]; omega) inv0 (fun j hj => by omega) (by rw [htl, show n - 1 + 1 = n by omega]; exact hlex) h
  unfold RgD
  have := wpAny_of_headR (Q := Q) (g := l.toArray.size - n) (fun listed a' w' hL => by
    have := wpAny_of_seq (md := .any) (Q' := Q) (l.drop n) n listed a' w' (fun j => by simp [List.getElem?_drop]) (by rw [hdl]; exact hL.1) hL.2
    rwa [hdl] at this) _ _ _ _ H
  rw [htl, show n - 1 + 1 + (l.toArray.size - n) = l.toArray.size by omega] at this
  exact this
end


section
variable {P : Program} {L : Nat → Prop}
theorem load_keepL {w w' : World} (hb : FrL L w w') {a : Addr} {v : Value} (hl : ¬ L a.block) (h : w.cell? a = some v) : (Go.load a).run P w' = .ok v w' := by
  have hlt : a.block < w.heap.size := by
    rcases Nat.lt_or_ge a.block w.heap.size with h' | h'
    · exact h'
    · unfold World.cell? at h; simp [Array.getElem?_eq_none h'] at h
  have : w'.cell? a = some v := by rw [← h]; exact cell_of_block (hb.2 _ hlt hl)
  simp only [Go.load, Sem.run, this]
theorem loadCells_stableL {w w' : World} (hb : FrL L w w') (a : Addr) (hl : ¬ L a.block) (hc : ∃ cs e fz, w.heap[a.block]? = some (.cells cs e fz)) :
    ∀ (n i : Nat) (acc x : Array Value) (w1 : World), (loadCellsFrom a i n acc).run P w = .ok x w1 → (loadCellsFrom a i n acc).run P w' = .ok x w'
  | 0, i, acc, x, w1, h => by
    simp only [loadCellsFrom, Sem.run_pure] at h ⊢
    cases h; rfl
  | n + 1, i, acc, x, w1, h => by
    simp only [loadCellsFrom, Sem.run_bind] at h ⊢
    cases h0 : (Go.load (a.add i)).run P w with
    | halt p q => rw [h0] at h; cases h
    | ok v w2 =>
      rw [h0] at h
      obtain ⟨h1, rfl⟩ := load_cell (by rw [add_block]; exact hc) h0
      rw [load_keepL hb (by rw [add_block]; exact hl) h1]
      exact loadCells_stableL hb a hl hc n (i + 1) _ x w1 h
theorem loadVar_stableL {w w' w1 : World} (hb : FrL L w w') {t : TypeId} {a : Addr} (hl : ¬ L a.block) (hc : ∃ cs e fz, w.heap[a.block]? = some (.cells cs e fz)) {v : Value} (h : (loadVar t a).run P w = .ok v w1) : (loadVar t a).run P w' = .ok v w' := by
  unfold loadVar at h ⊢
  have hagg : PS P (isAgg t) := by
    unfold isAgg
    refine PS.bind (PS.underlying _) fun d => ?_
    split <;> exact PS.pure _
  rw [Sem.run_bind] at h ⊢
  cases h0 : (isAgg t).run P w with
  | halt p q => rw [h0] at h; cases h
  | ok b w2 =>
    rw [h0] at h
    obtain ⟨rfl, h1⟩ := hagg w b w2 h0
    rw [h1 w']
    simp only [Result.andThen_ok] at h ⊢
    cases b with
    | true =>
      simp only [if_true, Sem.run_bind] at h ⊢
      cases h2 : (Go.sizeOf t).run P w2 with
      | halt p q => rw [h2] at h; cases h
      | ok k w3 =>
        rw [h2] at h
        obtain ⟨rfl, h3⟩ := PS.sizeOf t w2 k w3 h2
        rw [h3 w']
        simp only [Result.andThen_ok] at h ⊢
        cases h4 : (loadCells a k).run P w3 with
        | halt p q => rw [h4] at h; cases h
        | ok x w4 =>
          rw [h4] at h
          have h5 : (loadCells a k).run P w' = .ok x w' := by
            unfold loadCells at h4 ⊢
            exact loadCells_stableL hb a hl hc k 0 _ x w4 h4
          rw [h5]
          simp only [Result.andThen_ok, Sem.run_pure] at h ⊢
          cases h; rfl
    | false =>
      simp only [Bool.false_eq_true, if_false] at h ⊢
      obtain ⟨h2, _⟩ := load_cell hc h
      exact load_keepL hb hl h2
end

section
variable {E : Env} {X : Nat → Prop} {B : Nat} {W0 : Orig} {ts : List LV} {H : List Blk} {a : Act} {pl : Nat → PV} {w : World}

/-- What lies where a handle points to can be read there. -/
def atH (b : Blk) (n : Nat) (path : List Nat) : Prop := (∃ c y, b = .box c ∧ getP c path = some y) ∨ (∃ xs y, b.isRow xs ∧ n = xs.length ∧ path ≠ [] ∧ getP (.st xs) path = some y)
/-- What was read lies apart from what is lent. -/
def accOK (ids : List Nat) (H : List Blk) : List (Nat × Nat × List Nat) → Prop
  | [] => True
  | (id, n, path) :: acc => memB ids id = false ∧ (∃ b, H[id]? = some b ∧ atH b n path) ∧ accOK ids H acc
theorem accOK_mem {ids : List Nat} {H : List Blk} : ∀ {acc : List (Nat × Nat × List Nat)} {x : Nat × Nat × List Nat}, accOK ids H acc → x ∈ acc → memB ids x.1 = false ∧ ∃ b, H[x.1]? = some b ∧ atH b x.2.1 x.2.2
  | [], _, _, h => by cases h
  | (id, n, path) :: acc, x, k, h => by
    rcases List.mem_cons.1 h with rfl | h
    · exact ⟨k.1, k.2.1⟩
    · exact accOK_mem k.2.2 h

/-- A call by a contract, what it is lent being said ahead. -/
def callHi (P : Program) (ids : List Nat) (H : List Blk) (f : FuncId) (args : List LV) (K : LV → List Blk → Prop) : Prop :=
  ∃ as Hin r Hout, HSpec P f as Hin r Hout ∧ lentH ids H = Hin ∧ demHs H ids args fun args' d => renLs (idxN ids) args' = as ∧ lentB ids args' H r Hout = true ∧
    (match d with | false => True | true => flatH r = true ∧ flatBlks Hout) ∧ putBsK (outM ids H.length) H ids Hout fun H' => K (renL (outM ids H.length) r) H'

theorem callHi_stay {P : Program} (s : Sim X B W0 ⟨ts, H⟩ a w pl) {o : Oper} {g : FuncId} {xs : List LV} {vs : Array Value} (hlen : vs.size = xs.length) (hrt : ∀ (i : Nat) x v, xs[i]? = some x → vs[i]? = some v → RT (ctx X H pl w) x v)
    (hr0 : (execOp a.eval o).run P w = (callFunc g vs).run P w) {ids : List Nat} {K : LV → List Blk → Prop} (h : callHi P ids H g xs K) :
    (∀ i ∈ ids, i < H.length) ∧ (execOp a.eval o).run P w = .ok (.enter g vs) w ∧ Calls P g vs w fun e w'' => ∃ v, e = .returned v ∧ FrL (owned (fun _ => False) (lentH ids H) (inPl ids pl)) w w'' ∧
      ∃ x H' pl', K x H' ∧ Sim X B W0 ⟨ts, H'⟩ a w'' pl' ∧ RT (ctx X H' pl' w'') x v ∧ w.drawn ≤ w''.drawn := by
  obtain ⟨as, Hin, r, Hout, hsp, rfl, h⟩ := h
  unfold HSpec at hsp
  obtain ⟨hcall, hspec⟩ := hsp
  have hlt : ∀ i ∈ ids, i < H.length := by
    have : ∀ (ys : List LV) (K' : List LV → Bool → Prop), (∀ zs d, K' zs d → ∀ i ∈ ids, i < H.length) → demHs H ids ys K' → ∀ i ∈ ids, i < H.length := by
      intro ys
      induction ys with
      | nil => intro K' hK h; simp only [demHs] at h; exact hK _ _ h
      | cons y ys ih =>
        intro K' hK h
        simp only [demHs] at h
        obtain ⟨z, d, hz, _⟩ := demH_ex y _ h
        exact ih _ (fun zs d' h' => hK _ _ h') hz
    refine this xs _ (fun zs d h => ?_) h
    exact (lentB_spec h.2.1).lt
  refine ⟨hlt, ?_⟩
  obtain ⟨ys, d, ⟨rfl, hb, hflat, hk⟩, k2, k3⟩ := demV_sound s.good hlt xs vs.toList _ (by simpa using hlen) (fun i x v hx hv => hrt i x v hx (by simpa using hv)) h
  have l := lentB_spec hb
  rw [putBsK_eq] at hk
  have hr : (execOp a.eval o).run P w = .ok (.enter g vs) w := by rw [hr0, hcall]
  refine ⟨hr, ?_⟩
  have args : ∀ {ρ ρ' : Ctx}, Rens (idxN ids) (memB ids) ρ ρ' → (∀ (i : Nat) y v, ys[i]? = some y → vs[i]? = some v → RT ρ y v) → ∀ (i : Nat) x v, (renLs (idxN ids) ys)[i]? = some x → vs[i]? = some v → RT ρ' x v := by
    intro ρ ρ' hren hys i x v hx hv
    rw [renLs_map, List.getElem?_map] at hx
    cases hq : ys[i]? with
    | none => rw [hq] at hx; cases hx
    | some q =>
      rw [hq] at hx
      cases hx
      exact RT_ren hren (scs_get _ _ _ l.sa hq) (hys i q v hq hv)
  cases d with
  | true =>
    simp only at hflat
    have hY : Avoids X H pl ids (fun _ => False) := ⟨fun _ h => h.elim⟩
    have hin : Rens (idxN ids) (memB ids) (lentCtx X H pl ids w) (ctx (fun _ => False) (lentH ids H) (inPl ids pl) w) :=
      ⟨rfl, fun _ h => h, (rens_in (X := X) (w := w) l hY).hs, (rens_in (X := X) (w := w) l hY).hp⟩
    refine (hspec (fun _ => False) B w vs (inPl ids pl) (good_in s.good l hY) (by rw [renLs_len, k2]; exact hlen) (args hin fun i y v hy hv => (k3 i y v hy (by simpa using hv)).1)).mono ?_
    rintro e' w' ⟨v, pl', rfl, hg, hv, hl⟩
    have hle := le_out s.good l hY hg hl
    have fl : ∀ (v : PV) (b : Blk), b ∈ Hout → BlkOK B (ctx (fun _ => False) Hout pl' w') v b → BlkOK B (ctx X (outH ids H Hout) (outPl ids H.length pl pl') w') v (renB (outM ids H.length) b) := by
      intro v b hb k
      have hf := flatBlks_mem hflat.2 hb
      cases b with
      | dead => trivial
      | box c =>
        obtain ⟨b', es, ty, e1, e2, e3, e4⟩ := k
        exact ⟨b', es, ty, e1, e2, e3, RC_renF (ρ := ctx (fun _ => False) Hout pl' w') (ρ' := ctx X (outH ids H Hout) (outPl ids H.length pl pl') w') rfl (fun i k v h => hs_out l h) (fun i k p v h => hp_out l h) _ _ hf e4⟩
      | row t e kk zs =>
        obtain ⟨es, e1, e2, e3⟩ := k
        cases t with
        | false => exact ⟨es, e1, RCs_flat _ _ hf e2, e3⟩
        | true => exact ⟨es, e1, RRcs_flatT _ _ _ hf e2, e3⟩
      | it q p => exact k
      | bld => exact k
      | mp => exact k
      | opn => exact hf.elim
    exact ⟨v, rfl, ⟨hl.size, fun b hb hnl => hl.keep b hb hnl⟩, _, _, _, hk, ⟨good_out s.good l hY hg hl fl, s.defers, s.size, fun t x hx => RT.mono hle _ _ (s.tmps t x hx), s.le.trans hle⟩,
      RT_renF (ρ := ctx (fun _ => False) Hout pl' w') (ρ' := ctx X (outH ids H Hout) (outPl ids H.length pl pl') w') rfl (fun i k v h => hs_out l h) (fun i k p v h => hp_out l h) hflat.1 hv, hg.below.inc⟩
  | false =>
    have hY : Avoids X H pl ids (othersX X H pl ids) := ⟨fun _ h => h⟩
    refine (hspec (othersX X H pl ids) B w vs (inPl ids pl) (good_in s.good l hY) (by rw [renLs_len, k2]; exact hlen) (args (rens_in l hY) fun i y v hy hv => (k3 i y v hy (by simpa using hv)).2 rfl)).mono ?_
    rintro e' w' ⟨v, pl', rfl, hg, hv, hl⟩
    have hle := le_out s.good l hY hg hl
    have ho := rens_out (X := X) (H := H) (pl := pl) (pl' := pl') (w' := w') l (fun _ h => h)
    refine ⟨v, rfl, ⟨hl.size, fun b hb hnl => ?_⟩, _, _, _, hk, ⟨good_out s.good l hY hg hl fun v b hb k => BlkOK_ren ho (l.so b hb) k, s.defers, s.size, fun t x hx => RT.mono hle _ _ (s.tmps t x hx), s.le.trans hle⟩, RT_ren ho l.sr hv, hg.below.inc⟩
    by_cases hx : othersX X H pl ids b
    · exact hg.keepX b hx
    · refine hl.keep b hb fun ho => ?_
      rcases ho with ho | ho
      · exact hx ho
      · exact hnl (.inr ho)

theorem hp_cells2 (g : Good X B W0 H pl w) {id n : Nat} {path : List Nat} {v : Value} (hv : hpOK H pl id n path v) {b : Blk} (h0 : H[id]? = some b) (hb : atH b n path) :
    ∃ ad, v = .pointer (some ad) ∧ (∃ cs e fz, w.heap[ad.block]? = some (.cells cs e fz)) ∧ b.live ∧ ad.block ∈ b.feet (pl id) := by
  obtain ⟨_, _, h3, h4, _⟩ := hv
  rcases hb with ⟨c, y, rfl, hy⟩ | ⟨xs, y, hr, hn, hne, hy⟩
  · obtain ⟨o, ho⟩ := offP_ex path c y hy
    obtain ⟨b', es, ty, e1, e2, e3, _⟩ := g.ok id _ h0
    refine ⟨_, h3 c o h0 ho, ⟨es.toArray, ty, (0, 0), ?_⟩, trivial, Blk.feet_head (mem_feet.2 ⟨?_, rfl⟩)⟩
    · rw [e1]; exact e3
    · rw [e1]; rfl
  · obtain ⟨o, ho⟩ := offP_ex path (.st xs) y hy
    have hpos : 0 < xs.length := by
      cases path with
      | nil => exact absurd rfl hne
      | cons f q =>
        simp only [getP] at hy
        cases xs with
        | nil => simp at hy
        | cons _ _ => simp
    have hk := g.ok id b h0
    have row : ∀ {e k : Nat} {es : List Value}, w.ownsRow B e k (pl id).v xs.length es → (∃ cs e' fz, w.heap[bk (pl id).v]? = some (.cells cs e' fz)) ∧ hasBk (pl id).v = true := fun {e k es} r1 => by
      refine ⟨owns_cells r1 hpos, ?_⟩
      rcases r1.2 with ⟨_, h0⟩ | ⟨gg, cap, cur, hv, _⟩
      · omega
      · rw [hv]; rfl
    cases b with
    | row t e k ys =>
      have : ys = xs := hr
      subst this
      obtain ⟨es, r1, _⟩ := hk
      obtain ⟨q1, q2⟩ := row r1
      exact ⟨_, h4 _ ys o h0 rfl hn ho, q1, trivial, Blk.feet_head (mem_feet.2 ⟨q2, rfl⟩)⟩
    | opn e k gg j m =>
      have : gg .nil = xs := hr
      subst this
      obtain ⟨pre, post, u, p, r1, _⟩ := hk
      obtain ⟨q1, q2⟩ := row r1
      exact ⟨_, h4 _ (gg .nil) o h0 rfl hn ho, q1, trivial, Blk.feet_head (mem_feet.2 ⟨q2, rfl⟩)⟩
    | _ => exact hr.elim

abbrev Acc := List (Nat × Nat × List Nat)
def opH (E : Env) (o : Oper) (ts : List LV) (H : List Blk) (acc : Acc) (K : LV → List Blk → Acc → Prop) : Prop := match o.op with
  | .load t x => match ev ts x with
    | .hp id n path => opF E o ts H fun y H' => K y H' ((id, n, path) :: acc)
    | _ => False
  | .move _ => opF E o ts H fun y H' => K y H' acc
  | .assign _ => opF E o ts H fun y H' => K y H' acc
  | .indexAddr _ _ _ => opF E o ts H fun y H' => K y H' acc
  | _ => False
def hdStep (E : Env) (o : Oper) (rest : List LV → List Blk → Acc → (List LV → List Blk → Acc → Prop) → Prop) (ts : List LV) (H : List Blk) (acc : Acc) (K : List LV → List Blk → Acc → Prop) : Prop := match o.guard with
  | none => opH E o ts H acc fun x H' acc' => putK o.dst ts x fun ts' => rest ts' H' acc' K
  | some _ => False
def headH (E : Env) (l : List Oper) : List LV → List Blk → Acc → (List LV → List Blk → Acc → Prop) → Prop :=
  List.rec (motive := fun _ => List LV → List Blk → Acc → (List LV → List Blk → Acc → Prop) → Prop) (fun ts H acc K => K ts H acc) (fun o _ ih => hdStep E o ih) l
theorem headH_c {o : Oper} {l : List Oper} {acc : Acc} {K : List LV → List Blk → Acc → Prop} : headH E (o :: l) ts H acc K = hdStep E o (headH E l) ts H acc K := rfl

/-- Reads, told with where they read. -/
theorem opH_stay (hE : EnvOK E) (s : Sim X B W0 ⟨ts, H⟩ a w pl) {o : Oper} {acc : Acc} {K : LV → List Blk → Acc → Prop} (h : opH E o ts H acc K) :
    ∃ v x H' pl' acc', K x H' acc' ∧ Sim X B W0 ⟨ts, H'⟩ a w pl' ∧ RT (ctx X H' pl' w) x v ∧ (ctx X H pl w).Le (ctx X H' pl' w) ∧ (∀ y ∈ acc, y ∈ acc') ∧
      ∀ L : Nat → Prop, (∀ id n path u, (id, n, path) ∈ acc' → hpOK H' pl' id n path u → ∃ ad, u = .pointer (some ad) ∧ (∃ cs e fz, w.heap[ad.block]? = some (.cells cs e fz)) ∧ ¬ L ad.block) → StR E.P L o v a w := by
  have go : ∀ {acc' : Acc}, (∀ y ∈ acc, y ∈ acc') → rdB o = true → opF E o ts H (fun y H' => K y H' acc') →
      (∀ v, (execOp a.eval o).run E.P w = .ok (.value v) w → ∀ (H' : List Blk) (pl' : Nat → PV), (ctx X H pl w).Le (ctx X H' pl' w) → ∀ L : Nat → Prop,
        (∀ id n path u, (id, n, path) ∈ acc' → hpOK H' pl' id n path u → ∃ ad, u = .pointer (some ad) ∧ (∃ cs e fz, w.heap[ad.block]? = some (.cells cs e fz)) ∧ ¬ L ad.block) → StR E.P L o v a w) →
      ∃ v x H' pl' acc', K x H' acc' ∧ Sim X B W0 ⟨ts, H'⟩ a w pl' ∧ RT (ctx X H' pl' w) x v ∧ (ctx X H pl w).Le (ctx X H' pl' w) ∧ (∀ y ∈ acc, y ∈ acc') ∧
        ∀ L : Nat → Prop, (∀ id n path u, (id, n, path) ∈ acc' → hpOK H' pl' id n path u → ∃ ad, u = .pointer (some ad) ∧ (∃ cs e fz, w.heap[ad.block]? = some (.cells cs e fz)) ∧ ¬ L ad.block) → StR E.P L o v a w := by
    intro acc' hsub hrd h0 hst
    obtain ⟨v, hv, x, H', pl', k1, k2, k3, k4⟩ := opF_still hE s hrd h0
    exact ⟨v, x, H', pl', acc', k1, k2, k3, k4, hsub, fun L hL => hst v hv H' pl' k4 L hL⟩
  unfold opH at h
  cases e : o.op <;> rw [e] at h <;> try exact h.elim
  case move x =>
    refine go (fun _ h => h) (by unfold rdB; rw [e]) h fun v hv H' pl' _ L _ w' hb => ?_
    simp only [execOp, e, Sem.run_pure] at hv ⊢
    cases hv; rfl
  case assign x =>
    refine go (fun _ h => h) (by unfold rdB; rw [e]) h fun v hv H' pl' _ L _ w' hb => ?_
    simp only [execOp, e, Sem.run_pure] at hv ⊢
    cases hv; rfl
  case indexAddr t x ix =>
    refine go (fun _ h => h) (by unfold rdB; rw [e]) h fun v hv H' pl' _ L _ w' hb => ?_
    have hp : PS E.P (execOp a.eval o) := by
      simp only [execOp, e]
      exact PS.bind (PS.indexAt _ _ _) fun _ => PS.pure _
    exact (hp w _ w hv).2 w'
  case load t x =>
    simp only at h
    cases ex : ev ts x <;> rw [ex] at h <;> try exact h.elim
    rename_i id n path
    refine go (fun _ h => List.mem_cons_of_mem _ h) (by unfold rdB; rw [e]) h fun v hv H' pl' hle L hL w' hb => ?_
    have hx := ev_sound s x
    have ex0 : ev (St.mk ts H).tmps x = ev ts x := rfl
    rw [ex0, ex] at hx
    simp only [RT, RT1, RC] at hx
    obtain ⟨u, h1, h2⟩ := hx
    simp at h1
    subst h1
    obtain ⟨ad, q1, q2, q3⟩ := hL id n path _ (List.mem_cons_self ..) (hle.hp _ _ _ _ h2)
    simp only [execOp, e, Sem.run_bind, q1, Instr.loadAt, Instr.sureAddr, Sem.run_pure, Result.andThen_ok] at hv ⊢
    cases h0 : (loadVar t ad).run E.P w with
    | halt p q => rw [h0] at hv; cases hv
    | ok u1 w1 =>
      rw [h0] at hv
      simp only [Result.andThen_ok] at hv
      cases hv
      rw [loadVar_stableL hb q3 q2 h0]
      rfl

/-- What stands at the call. -/
def callAt (E : Env) (ids : List Nat) (oc : Oper) (ts : List LV) (H : List Blk) (K : List LV → List Blk → Prop) : Prop := match oc.op with
  | .call ⟨.value (.func g), args, _⟩ => callHi E.P ids H g (args.toList.map (ev ts)) fun x H' => putK oc.dst ts x fun ts' => K ts' H'
  | _ => False
theorem headH_run (hE : EnvOK E) {oc : Oper} {ids : List Nat} {T : Act → World → Prop} {K : List LV → List Blk → Prop} (hK : ∀ ts H a w pl, K ts H → Sim X B W0 ⟨ts, H⟩ a w pl → T a w) :
    ∀ (l : List Oper) (ts : List LV) (H : List Blk) (a : Act) (pl : Nat → PV) (acc : Acc), headH E l ts H acc (fun ts1 H1 acc1 => accOK ids H1 acc1 ∧ callAt E ids oc ts1 H1 K) → Sim X B W0 ⟨ts, H⟩ a w pl →
      ∃ L : Nat → Prop, hdRunR E.P L oc T l a w ∧ ∀ id n path u, (id, n, path) ∈ acc → hpOK H pl id n path u → ∃ ad, u = .pointer (some ad) ∧ (∃ cs e fz, w.heap[ad.block]? = some (.cells cs e fz)) ∧ ¬ L ad.block
  | [], ts, H, a, pl, acc, h, s => by
    obtain ⟨hacc, h⟩ := h
    unfold callAt at h
    split at h
    rotate_left
    · exact h.elim
    rename_i g args ats e
    have hr0 : (execOp a.eval oc).run E.P w = (callFunc g (args.map a.eval)).run E.P w := by
      simp only [execOp, e, resolve]
      simp [Deferred.ofValue, Act.eval, invoke]
    obtain ⟨hlt, h1, h2⟩ := callHi_stay s (vs := args.map a.eval) (by simp) (fun i x v hx hv => by
      rw [← Array.getElem?_toList, Array.toList_map] at hv
      rw [List.getElem?_map] at hx hv
      cases hq : args.toList[i]? with
      | none => rw [hq] at hx; cases hx
      | some q =>
        rw [hq] at hx hv
        cases hx; cases hv
        exact ev_sound s q) hr0 h
    refine ⟨owned (fun _ => False) (lentH ids H) (inPl ids pl), ⟨g, _, h1, h2.mono ?_⟩, fun id n path u hm hv => ?_⟩
    · rintro e' w'' ⟨v, rfl, hb, x, H', pl', hk, s', hv, _⟩
      refine ⟨v, rfl, hb, ?_⟩
      rw [putK_eq] at hk
      exact hK _ _ _ _ _ hk (s'.putO oc hv)
    · obtain ⟨hid, b, hb, hat⟩ := accOK_mem hacc hm
      obtain ⟨ad, k1, k2, k3, k4⟩ := hp_cells2 s.good hv hb hat
      refine ⟨ad, k1, k2, fun hL => ?_⟩
      obtain ⟨j, hj, c, hc, lc, fc⟩ := lentH_owned hlt hL
      have := s.good.inj id j b c ad.block hb k3 hc lc k4 fc
      subst this
      have : memB ids id = true := memB_iff.2 hj
      simp only at hid
      rw [hid] at this
      cases this
  | o :: l, ts, H, a, pl, acc, h, s => by
    rw [headH_c] at h
    unfold hdStep at h
    cases hg : o.guard with
    | some _ => rw [hg] at h; exact h.elim
    | none =>
      rw [hg] at h
      obtain ⟨v, x, H', pl', acc', k1, k2, k3, k4, k5, k6⟩ := opH_stay hE s h
      rw [putK_eq] at k1
      obtain ⟨L, q1, q2⟩ := headH_run hE hK l _ H' _ pl' acc' k1 (k2.putO o k3)
      exact ⟨L, ⟨hg, v, k6 L fun id n path u hm hv => q2 id n path u hm hv, q1⟩, fun id n path u hm hv => q2 id n path u (k5 _ hm) (k4.hp _ _ _ _ hv)⟩

def callSB (m : Nat) (ops : Array Oper) : Bool := Region.lexTailB .any ops m && Nat.blt 0 m && (match ops[m - 1]? with | some o => o.guard.isNone | none => false)
/-- A region whose head reads and calls by a contract that writes. -/
def headW (E : Env) (ops : Array Oper) (m : Nat) (ids : List Nat) (ts : List LV) (H : List Blk) (K : List LV → List Blk → Prop) : Prop :=
  headH E (ops.toList.take (m - 1)) ts H [] fun ts1 H1 acc => accOK ids H1 acc ∧ match ops[m - 1]? with
    | some oc => callAt E ids oc ts1 H1 fun ts2 H2 => opsF E ops (ops.toList.drop m) ts2 H2 K
    | none => False
theorem headW_sound (hE : EnvOK E) {all : Array Oper} {m : Nat} {ids : List Nat} (hd : callSB m all = true) {K : List LV → List Blk → Prop} {Q : Exit → Act → World → Prop}
    (hK : ∀ ts H a w pl, K ts H → Sim X B W0 ⟨ts, H⟩ a w pl → Q .normal a w) (h : headW E all m ids ts H K) (s : Sim X B W0 ⟨ts, H⟩ a w pl) : RgD E.P all Q a w := by
  simp only [callSB, Bool.and_eq_true, Nat.blt_eq] at hd
  obtain ⟨⟨h1, h2⟩, h3⟩ := hd
  unfold headW at h
  cases hoc : all[m - 1]? with
  | none => rw [hoc] at h3; cases h3
  | some oc =>
    rw [hoc] at h3 h
    have s := s.grow (w' := { w with drawn := w.drawn + 1 }) ⟨rfl, rfl, rfl, Nat.le_refl _, fun _ _ => rfl, Nat.le_succ _⟩
    have hel : all.toList[m - 1]? = some oc := by rw [Array.getElem?_toList]; exact hoc
    have hg : oc.guard = none := by simpa using h3
    obtain ⟨L, q1, _⟩ := headH_run hE (T := fun a' w' => wpList E.P all Q (all.toList.drop m) a' w') (fun ts H a w pl k s => opsF_sound hE hK _ ts H a w pl k s) _ ts H a pl [] h s
    have := wp_region_callR_tail (P := E.P) (Q := Q) (a := a) (w := w) (L := L) (l := all.toList) m (by simpa using h1) h2 hg hel (by simpa using q1)
    simpa using this
end
end Go.Lg

