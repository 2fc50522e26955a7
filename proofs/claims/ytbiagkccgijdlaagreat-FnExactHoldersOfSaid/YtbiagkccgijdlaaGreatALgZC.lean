/- Regions whose order is open up to a tail, where the head reads and calls once: reads are as good behind the call. -/
import Derived.Test.YtbiagkccgijdlaaGreatALgZ
import Derived.Laws.Panics
namespace Go.Lg
variable [GI]
set_option linter.unusedSectionVars false
set_option linter.unusedVariables false
set_option linter.unusedSimpArgs false
open Go.RowKit

section
variable {P : Program}

/-- Ended well, it has left the world as it was, and ends so in any world. -/
def PS {α : Type} (P : Program) (s : Sem α) : Prop := ∀ w x w1, s.run P w = .ok x w1 → w1 = w ∧ ∀ w', s.run P w' = .ok x w'
theorem PS.bind {α β : Type} {s : Sem α} {f : α → Sem β} (h : PS P s) (k : ∀ x, PS P (f x)) : PS P (s >>= f) := by
  intro w x w1 hr
  rw [Sem.run_bind] at hr
  cases h0 : s.run P w with
  | halt a b => rw [h0] at hr; cases hr
  | ok y w2 =>
    rw [h0] at hr
    obtain ⟨rfl, h2⟩ := h w y w2 h0
    obtain ⟨h3, h4⟩ := k y _ _ _ hr
    exact ⟨h3, fun w' => by rw [Sem.run_bind, h2 w']; exact h4 w'⟩
theorem PS.pure {α : Type} (x : α) : PS P (Pure.pure x : Sem α) := fun w y w1 h => by
  simp only [Sem.run_pure] at h
  cases h
  exact ⟨rfl, fun w' => rfl⟩
theorem PS.no {α : Type} {s : Sem α} (h : ∀ w x w1, s.run P w ≠ .ok x w1) : PS P s := fun w x w1 k => absurd k (h w x w1)
theorem PS.all {α : Type} {s : Sem α} {x : α} (h : ∀ w, s.run P w = .ok x w) : PS P s := fun w y w1 k => by
  rw [h w] at k; cases k; exact ⟨rfl, h⟩
theorem PS.underlying (t : TypeId) : PS P (Go.underlying t) := by
  intro w x w1 h
  unfold Go.underlying at h ⊢
  rw [Sem.run_bind] at h
  simp only [Go.program, Sem.run, Result.andThen_ok] at h
  cases hp : P.underlying t with
  | none => rw [hp] at h; simp [stuck] at h
  | some d =>
    rw [hp] at h
    simp at h
    obtain ⟨rfl, rfl⟩ := h
    exact ⟨rfl, fun w' => by rw [Sem.run_bind]; simp [Go.program, Sem.run, hp]⟩
theorem PS.typeInfo (t : TypeId) : PS P (Go.typeInfo t) := by
  intro w x w1 h
  unfold Go.typeInfo at h ⊢
  rw [Sem.run_bind] at h
  simp only [Go.program, Sem.run, Result.andThen_ok] at h
  cases hp : P.info? t with
  | none => rw [hp] at h; simp [stuck] at h
  | some d =>
    rw [hp] at h
    simp at h
    obtain ⟨rfl, rfl⟩ := h
    exact ⟨rfl, fun w' => by rw [Sem.run_bind]; simp [Go.program, Sem.run, hp]⟩
theorem PS.sizeOf (t : TypeId) : PS P (Go.sizeOf t) := PS.bind (PS.typeInfo t) fun i => PS.pure _
theorem PS.stuck {α : Type} (m : String) : PS P (Go.stuck m : Sem α) := PS.no fun w x w1 h => by simp [Go.stuck] at h
theorem PS.unsupported {α : Type} (m : Unsupported) : PS P (Go.unsupported m : Sem α) := PS.no fun w x w1 h => by simp [Go.unsupported] at h
theorem PS.asIntOf (v : Value) : PS P (Go.asIntOf v) := by
  unfold Go.asIntOf
  split
  · exact PS.pure _
  · exact PS.unsupported _
  · exact PS.stuck _
theorem PS.sureAddr (v : Value) : PS P (Instr.sureAddr v) := by
  unfold Instr.sureAddr
  split
  · exact PS.pure _
  · exact PS.stuck _

theorem PS.indexAt (t : TypeId) (x ix : Value) : PS P (Instr.indexAt t x ix) := by
  unfold Instr.indexAt
  repeat' (first
    | exact PS.pure _
    | exact PS.stuck _
    | exact PS.unsupported _
    | exact PS.asIntOf _
    | exact PS.sureAddr _
    | exact PS.underlying _
    | exact PS.sizeOf _
    | exact PS.no fun w x w1 h => by
        obtain ⟨s, w', e⟩ := run_boundsPanic (P := P) (w := w) (α := Value) _ _ _ _
        rw [e] at h; cases h
    | (refine PS.bind ?_ fun _ => ?_)
    | (show PS P (if _ then _ else _); split)
    | split)

theorem load_cell {w w1 : World} {a : Addr} {v : Value} (hc : ∃ cs e fz, w.heap[a.block]? = some (.cells cs e fz)) (h : (Go.load a).run P w = .ok v w1) : w.cell? a = some v ∧ w1 = w := by
  obtain ⟨cs, e, fz, hc⟩ := hc
  simp only [Go.load, Sem.run] at h
  split at h
  · rename_i u hu; cases h; exact ⟨hu, rfl⟩
  · simp [World.farLoad, hc] at h
theorem load_keep {w w' : World} (hb : Below w.heap.size w w') {a : Addr} {v : Value} (h : w.cell? a = some v) : (Go.load a).run P w' = .ok v w' := by
  have hlt : a.block < w.heap.size := by
    rcases Nat.lt_or_ge a.block w.heap.size with h' | h'
    · exact h'
    · unfold World.cell? at h; simp [Array.getElem?_eq_none h'] at h
  have : w'.cell? a = some v := by rw [hb.cell hlt]; exact h
  simp only [Go.load, Sem.run, this]
theorem add_block (a : Addr) (i : Nat) : (a.add i).block = a.block := by unfold Addr.add; split <;> rfl
theorem loadCells_stable {w w' : World} (hb : Below w.heap.size w w') (a : Addr) (hc : ∃ cs e fz, w.heap[a.block]? = some (.cells cs e fz)) :
    ∀ (n i : Nat) (acc x : Array Value) (w1 : World), (loadCellsFrom a i n acc).run P w = .ok x w1 → (loadCellsFrom a i n acc).run P w' = .ok x w'
  | 0, i, acc, x, w1, h => by
    simp only [loadCellsFrom, Sem.run_pure] at h ⊢
    cases h; rfl
  | n + 1, i, acc, x, w1, h => by
    simp only [loadCellsFrom, Sem.run_bind] at h ⊢
    cases h0 : (Go.load (a.add i)).run P w with
    | halt p q => rw [h0] at h; cases h
    | ok v w2 =>
      rw [h0] at h
      obtain ⟨h1, rfl⟩ := load_cell (by rw [add_block]; exact hc) h0
      rw [load_keep hb h1]
      exact loadCells_stable hb a hc n (i + 1) _ x w1 h
theorem loadVar_stable {w w' w1 : World} (hb : Below w.heap.size w w') {t : TypeId} {a : Addr} (hc : ∃ cs e fz, w.heap[a.block]? = some (.cells cs e fz)) {v : Value} (h : (loadVar t a).run P w = .ok v w1) : (loadVar t a).run P w' = .ok v w' := by
  unfold loadVar at h ⊢
  have hagg : PS P (isAgg t) := by
    unfold isAgg
    refine PS.bind (PS.underlying _) fun d => ?_
    split <;> exact PS.pure _
  rw [Sem.run_bind] at h ⊢
  cases h0 : (isAgg t).run P w with
  | halt p q => rw [h0] at h; cases h
  | ok b w2 =>
    rw [h0] at h
    obtain ⟨rfl, h1⟩ := hagg w b w2 h0
    rw [h1 w']
    simp only [Result.andThen_ok] at h ⊢
    cases b with
    | true =>
      simp only [if_true, Sem.run_bind] at h ⊢
      cases h2 : (Go.sizeOf t).run P w2 with
      | halt p q => rw [h2] at h; cases h
      | ok k w3 =>
        rw [h2] at h
        obtain ⟨rfl, h3⟩ := PS.sizeOf t w2 k w3 h2
        rw [h3 w']
        simp only [Result.andThen_ok] at h ⊢
        cases h4 : (loadCells a k).run P w3 with
        | halt p q => rw [h4] at h; cases h
        | ok x w4 =>
          rw [h4] at h
          have h5 : (loadCells a k).run P w' = .ok x w' := by
            unfold loadCells at h4 ⊢
            exact loadCells_stable hb a hc k 0 _ x w4 h4
          rw [h5]
          simp only [Result.andThen_ok, Sem.run_pure] at h ⊢
          cases h; rfl
    | false =>
      simp only [Bool.false_eq_true, if_false] at h ⊢
      obtain ⟨h2, _⟩ := load_cell hc h
      exact load_keep hb h2
end

section
variable {P : Program} {ops : Array Oper} {md : Region.Mode}

/-- It yields this, here and in any world that has only grown. -/
def StY (P : Program) (o : Oper) (v : Value) (a : Act) (w : World) : Prop := ∀ w', Below w.heap.size w w' → (execOp a.eval o).run P w' = .ok (.value v) w'
theorem StY.grow {o : Oper} {v : Value} {a : Act} {w w' : World} (h : StY P o v a w) (hb : Below w.heap.size w w') : StY P o v a w' :=
  fun w'' h2 => h w'' (hb.trans (h2.mono hb.size))

def Oper.stW (P : Program) (o : Oper) (K : Act → World → Prop) (a : Act) (w : World) : Prop := match (execOp a.eval o).run P w with
  | .ok (.value v) w' => w' = w ∧ K (a.put o.dst v) w
  | .ok (.enter f args) w' => w' = w ∧ Calls P f args w fun e w'' => ∃ v, e = .returned v ∧ Below w.heap.size w w'' ∧ K (a.put o.dst v) w''
  | _ => False
def stWi (P : Program) (ops : Array Oper) (i : Nat) (K : Act → World → Prop) (a : Act) (w : World) : Prop := match ops[i]? with
  | none => False
  | some o => Region.wanted o (yielded ops a.tmps) = true ∧ Oper.stW P o K a w
theorem Oper.stW_mono {o : Oper} {K K' : Act → World → Prop} {a : Act} {w : World} (hk : ∀ a w, K a w → K' a w) (h : Oper.stW P o K a w) : Oper.stW P o K' a w := by
  unfold Oper.stW at *
  generalize (execOp a.eval o).run P w = r at *
  cases r with
  | ok n w' =>
    cases n <;> simp only at h ⊢
    case value v => exact ⟨h.1, hk _ _ h.2⟩
    case enter f args => exact ⟨h.1, h.2.mono fun e w'' ⟨v, h1, h2, h3⟩ => ⟨v, h1, h2, hk _ _ h3⟩⟩
    all_goals exact h
  | halt x w' => exact h
theorem stWi_mono {i : Nat} {K K' : Act → World → Prop} {a : Act} {w : World} (hk : ∀ a w, K a w → K' a w) (h : stWi P ops i K a w) : stWi P ops i K' a w := by
  unfold stWi at *
  split
  · rename_i h0; simp only [h0] at h
  · rename_i o ho; simp only [ho] at h; exact ⟨h.1, Oper.stW_mono hk h.2⟩
theorem wpOp_of_stWi {i : Nat} {K K' : Act → World → Prop} {Q : Exit → Act → World → Prop} {a : Act} {w : World} (hk : ∀ a w, K a w → K' a w) (h : stWi P ops i K a w) : wpOp P ops Q i K' a w := by
  unfold stWi at h
  unfold wpOp
  split
  · rename_i h0; simp only [h0] at h
  · rename_i o ho
    simp only [ho] at h
    rw [if_pos h.1]
    left
    have h2 := h.2
    unfold Oper.stW at h2
    unfold Oper.wp
    generalize (execOp a.eval o).run P w = r at *
    cases r with
    | ok n w' =>
      cases n <;> simp only at h2
      case value v => obtain ⟨rfl, h3⟩ := h2; exact hk _ _ h3
      case enter f args =>
        obtain ⟨rfl, h3⟩ := h2
        exact h3.mono fun e w'' ⟨v, h4, _, h5⟩ => by subst h4; exact hk _ _ h5
      all_goals exact h2.elim
    | halt x w' => exact h2.elim
theorem StY.stWi {i : Nat} {o : Oper} {v : Value} {a : Act} {w : World} (hi : ops[i]? = some o) (hg : o.guard = none) (hy : StY P o v a w) {K : Act → World → Prop} (h : K (a.put o.dst v) w) : stWi P ops i K a w := by
  unfold Go.Lg.stWi
  simp only [hi]
  refine ⟨by simp [Region.wanted, hg], ?_⟩
  unfold Oper.stW
  rw [hy w (Below.refl _ _)]
  exact ⟨rfl, h⟩
theorem stWi_put {j : Nat} {oi oj : Oper} {v : Value} (hj : ops[j]? = some oj) (hap : oi.apart ops oj = true) (hsi : ∀ cs b, oi.op ≠ .select cs b) (hsj : ∀ cs b, oj.op ≠ .select cs b)
    {K : Act → World → Prop} {a : Act} {w : World} (hy : StY P oi v a w) (h : stWi P ops j K (a.put oi.dst v) w) : stWi P ops j (fun a' w' => StY P oi v a' w' ∧ K (a'.put oi.dst v) w') a w := by
  obtain ⟨h1, h2, h3⟩ := Oper.apart_spec hap
  have keep : ∀ (u : Value) (w' : World), Below w.heap.size w w' → StY P oi v (a.put oj.dst u) w' := fun u w' hb w'' hb' => by
    rw [execOp_put oi hsi a oj.dst u h3]
    exact hy.grow hb w'' hb'
  unfold stWi at *
  simp only [hj] at *
  rw [wanted_put oj a oi.dst v h1] at h
  refine ⟨h.1, ?_⟩
  have h4 := h.2
  unfold Oper.stW at *
  rw [execOp_put oj hsj a oi.dst v h1] at h4
  generalize (execOp a.eval oj).run P w = r at *
  cases r with
  | ok n w' =>
    cases n <;> simp only at h4 ⊢
    case value u => exact ⟨h4.1, keep u w (Below.refl _ _), by rw [← Act.put_comm a v u h2]; exact h4.2⟩
    case enter f args =>
      exact ⟨h4.1, h4.2.mono fun e w'' ⟨u, k1, k2, k3⟩ => ⟨u, k1, k2, keep u w'' k2, by rw [← Act.put_comm a v u h2]; exact k3⟩⟩
    all_goals exact h4
  | halt x w' => exact h4

def wpAnyW (P : Program) (md : Region.Mode) (ops : Array Oper) (n : Nat) (L : Array Bool → Act → World → Prop) : Nat → Array Bool → Act → World → Prop
  | 0, listed, a, w => L listed a w
  | f + 1, listed, a, w => Region.ready md ops listed ≠ [] ∧ ∀ i ∈ Region.ready md ops listed, i < n ∧ stWi P ops i (wpAnyW P md ops n L f (listed.setIfInBounds i true)) a w
theorem wpAny_of_headW {n g : Nat} {L : Array Bool → Act → World → Prop} {Q : Exit → Act → World → Prop} (hL : ∀ listed a w, L listed a w → wpAny P md ops Q g listed a w) :
    ∀ (f : Nat) (listed : Array Bool) (a : Act) (w : World), wpAnyW P md ops n L f listed a w → wpAny P md ops Q (f + g) listed a w
  | 0, listed, a, w, h => by rw [Nat.zero_add]; exact hL _ _ _ h
  | f + 1, listed, a, w, h => by
    rw [show f + 1 + g = (f + g) + 1 by omega]
    exact ⟨fun h0 => absurd h0 h.1, fun i hi => wpOp_of_stWi (fun a' w' h' => wpAny_of_headW hL f _ a' w' h') (h.2 i hi).2⟩

theorem wpAnyW_first {n i : Nat} {oi : Oper} {v : Value} {L : Array Bool → Act → World → Prop} (hi : ops[i]? = some oi) (hg : oi.guard = none) (hsel : ∀ (j : Nat) (o : Oper) cs b, ops[j]? = some o → o.op ≠ .select cs b)
    (hs : Region.sinkB md ops n = true) (hc : Region.chainB md ops n = true) (hn : n < ops.size) (hin : i < n)
    (hdone : ∀ listed a w, L listed a w → ∀ j ∈ Region.ready md ops listed, n ≤ j) :
    ∀ (f : Nat) (listed : Array Bool) (a : Act) (w : World), HeadInv md ops n listed →
      (∀ j oj, ops[j]? = some oj → j ≠ i → listed.getD j true = false → (∀ e ∈ oj.after, Region.binds md e = true → e.on ≠ i) → oi.apart ops oj = true) →
      i ∈ Region.ready md ops listed → StY P oi v a w →
      wpAnyW P md ops n L f (listed.setIfInBounds i true) (a.put oi.dst v) w → wpAnyW P md ops n L (f + 1) listed a w := by
  intro f
  induction f with
  | zero =>
    intro listed a w inv _ hr hy H
    have hun := (mem_ready.1 hr).1
    refine ⟨fun h => (by rw [h] at hr; cases hr), fun j hj => ?_⟩
    have hjn : j < n := by
      rcases Nat.lt_or_ge j n with h | h
      · exact h
      · exact absurd hj (tail_waits hs hc hn inv _ i rfl hin hun j h)
    refine ⟨hjn, ?_⟩
    by_cases hji : j = i
    · subst hji; exact hy.stWi hi hg H
    · have := hdone _ _ _ H j (ready_mono hj hji)
      omega
  | succ f ih =>
    intro listed a w inv hfree hr hy H
    have hun := (mem_ready.1 hr).1
    refine ⟨fun h => (by rw [h] at hr; cases hr), fun j hj => ?_⟩
    have hjn : j < n := by
      rcases Nat.lt_or_ge j n with h | h
      · exact h
      · exact absurd hj (tail_waits hs hc hn inv _ i rfl hin hun j h)
    refine ⟨hjn, ?_⟩
    by_cases hji : j = i
    · subst hji; exact hy.stWi hi hg H
    · have h1 := (H.2 j (ready_mono hj hji)).2
      obtain ⟨hjun, oj, hoj, hall⟩ := mem_ready.1 hj
      have hnot : ∀ e ∈ oj.after, Region.binds md e = true → e.on ≠ i := fun e he hb heq => by
        have h1 := hall e he hb
        rw [heq, getD_both hun] at h1
        cases h1
      have h2 := stWi_put hoj (hfree j oj hoj hji hjun hnot) (fun cs b => hsel i oi cs b hi) (fun cs b => hsel j oj cs b hoj) hy h1
      have hfree' : ∀ k ok, ops[k]? = some ok → k ≠ i → (listed.setIfInBounds j true).getD k true = false →
          (∀ e ∈ ok.after, Region.binds md e = true → e.on ≠ i) → oi.apart ops ok = true := fun k ok hk hki hun hno => by
        refine hfree k ok hk hki ?_ hno
        by_cases hjk : j = k
        · subst hjk; exact hjun
        · rw [getD_set_ne true hjk] at hun; exact hun
      refine stWi_mono (fun a' w' h3 => ih (listed.setIfInBounds j true) a' w' (inv.set hj hjn) hfree' (ready_mono hr (Ne.symm hji)) h3.1 ?_) h2
      rw [Array.setIfInBounds_comm _ _ hji]
      exact h3.2

/-- The head in the order of the text: it reads, and calls last. -/
def hdRun (P : Program) (oc : Oper) (T : Act → World → Prop) : List Oper → Act → World → Prop
  | [], a, w => ∃ g vs, (execOp a.eval oc).run P w = .ok (.enter g vs) w ∧ Calls P g vs w fun e w'' => ∃ v, e = .returned v ∧ Below w.heap.size w w'' ∧ T (a.put oc.dst v) w''
  | o :: l, a, w => o.guard = none ∧ ∃ v, StY P o v a w ∧ hdRun P oc T l (a.put o.dst v) w

theorem wpAnyW_lex {n g : Nat} {oc : Oper} {T : Act → World → Prop} (hsel : Region.noSelect ops = true) (hs : Region.sinkB md ops n = true) (hc : Region.chainB md ops n = true) (hn : n < ops.size) (hgc : oc.guard = none) (hoc : ops[n - 1]? = some oc) :
    ∀ (l : List Oper) (k : Nat) (listed : Array Bool) (a : Act) (w : World), (∀ j, j < l.length → l[j]? = ops[k + j]?) → k + l.length + 1 = n → HeadInv md ops n listed → (∀ j, j < k → listed.getD j true = true) →
    Region.lexHead md ops g (l.length + 1) k listed = true → hdRun P oc T l a w →
    wpAnyW P md ops n (fun listed' a' w' => Region.seqB md ops g n listed' = true ∧ T a' w') (l.length + 1) listed a w
  | [], k, listed, a, w, _, hk, inv, hall, hB, h => by
    simp only [List.length_nil, Nat.zero_add, Nat.add_zero] at hk hB ⊢
    simp only [Region.lexHead, Bool.and_eq_true] at hB
    obtain ⟨⟨hr, _⟩, hB'⟩ := hB
    have hr' : k ∈ Region.ready md ops listed := by simpa using hr
    have hun := (mem_ready.1 hr').1
    refine ⟨fun h => (by rw [h] at hr'; cases hr'), fun i hi => ?_⟩
    have hin : i < n := by
      rcases Nat.lt_or_ge i n with h | h
      · exact h
      · exact absurd hi (tail_waits hs hc hn inv _ k rfl (by omega) hun i h)
    have hik : i = k := by
      have h1 := (mem_ready.1 hi).1
      rcases Nat.lt_or_ge i k with h | h
      · rw [hall i h] at h1; cases h1
      · omega
    subst hik
    refine ⟨hin, ?_⟩
    have hk' : n - 1 = i := by omega
    rw [hk'] at hoc
    unfold stWi
    simp only [hoc]
    refine ⟨by simp [Region.wanted, hgc], ?_⟩
    obtain ⟨g', vs, h1, h2⟩ := h
    unfold Oper.stW
    rw [h1]
    refine ⟨rfl, h2.mono fun e w'' ⟨v, k1, k2, k3⟩ => ⟨v, k1, k2, ?_, k3⟩⟩
    rw [hk] at hB'
    exact hB'
  | o :: l, k, listed, a, w, hl, hk, inv, hall, hB, h => by
    have h0 : ops[k]? = some o := by simpa using (hl 0 (by simp)).symm
    rw [List.length_cons] at hB ⊢
    rw [Region.lexHead] at hB
    simp only [Bool.and_eq_true] at hB
    obtain ⟨⟨hr, hf⟩, hB'⟩ := hB
    have hkn : k < n := by simp only [List.length_cons] at hk; omega
    have hr' : k ∈ Region.ready md ops listed := by simpa using hr
    obtain ⟨hgo, v, hy, hK⟩ := h
    have hkl : k < listed.size := by rw [inv.size]; omega
    refine wpAnyW_first h0 hgo (Region.noSelect_spec hsel) hs hc hn hkn (fun listed' a' w' hL => seqB_ready hL.1) (l.length + 1) listed a w inv (Region.free_spec h0 hf) hr' hy
      (wpAnyW_lex hsel hs hc hn hgc hoc l (k + 1) _ _ _ (fun j hj => by have := hl (j + 1) (by simp; omega); simpa [Nat.add_assoc, Nat.add_comm 1 j] using this) (by simp only [List.length_cons] at hk; omega) (inv.set hr' hkn) (fun j hj => ?_) hB' hK)
    by_cases e : j = k
    · subst e; simp [hkl]
    · rw [getD_set_ne true (Ne.symm e)]; exact hall j (by omega)

theorem wp_region_call_tail {Q : Exit → Act → World → Prop} {a : Act} {w : World} {l : List Oper} {oc : Oper} (n : Nat) (hB : Region.lexTailB .any l.toArray n = true) (h0 : 0 < n) (hgc : oc.guard = none) (hoc : l[n - 1]? = some oc)
    (h : hdRun P oc (fun a' w' => wpList P l.toArray Q (l.drop n) a' w') (l.take (n - 1)) a { w with drawn := w.drawn + 1 }) : RgD P l.toArray Q a w := by
  simp only [Region.lexTailB, Bool.and_eq_true, decide_eq_true_eq] at hB
  obtain ⟨⟨⟨⟨hsel, hn⟩, hs⟩, hc⟩, hlex⟩ := hB
  have hn' : n < l.length := by simpa using hn
  have htl : (l.take (n - 1)).length = n - 1 := by simp; omega
  have hdl : (l.drop n).length = l.toArray.size - n := by simp
  have inv0 : HeadInv .any l.toArray n (Array.replicate l.toArray.size false) :=
    ⟨by simp, fun j oj _ hl => (by rw [getD_replicate_false] at hl; cases hl), fun t _ ht => getD_in (by simpa using ht) (getD_replicate_false _ _)⟩
  have H := wpAnyW_lex (md := .any) (g := l.toArray.size - n) hsel hs hc hn hgc (by simpa using hoc) (l.take (n - 1)) 0 _ a _ (fun j hj => by
    have hj' : j < n - 1 := by rw [htl] at hj; exact hj
    simp [hj']) (by rw [htl]; omega) inv0 (fun j hj => by omega) (by rw [htl, show n - 1 + 1 = n by omega]; exact hlex) h
  unfold RgD
  have := wpAny_of_headW (Q := Q) (g := l.toArray.size - n) (fun listed a' w' hL => by
    have := wpAny_of_seq (md := .any) (Q' := Q) (l.drop n) n listed a' w' (fun j => by simp [List.getElem?_drop]) (by rw [hdl]; exact hL.1) hL.2
    rwa [hdl] at this) _ _ _ _ H
  rw [htl, show n - 1 + 1 + (l.toArray.size - n) = l.toArray.size by omega] at this
  exact this
end

section
variable {E : Env} {X : Nat → Prop} {B : Nat} {W0 : Orig} {ts : List LV} {H : List Blk} {a : Act} {pl : Nat → PV} {w : World}

theorem owns_cells {w : World} {B e k n : Nat} {v : Value} {es : List Value} (h : w.ownsRow B e k v n es) (hn : 0 < n) : ∃ cs e' fz, w.heap[bk v]? = some (.cells cs e' fz) := by
  rcases h.2 with ⟨_, h0⟩ | ⟨g, cap, cur, rfl, _, hg, _⟩
  · omega
  · exact ⟨cur, e, (0, 0), hg⟩
theorem hp_cells (g : Good X B W0 H pl w) {id n : Nat} {path : List Nat} {v : Value} (hv : hpOK H pl id n path v) {b : Blk} (h0 : H[id]? = some b)
    (hb : (∃ c y, b = .box c ∧ getP c path = some y) ∨ (∃ xs y, b.isRow xs ∧ n = xs.length ∧ path ≠ [] ∧ getP (.st xs) path = some y)) :
    ∃ ad, v = .pointer (some ad) ∧ ∃ cs e fz, w.heap[ad.block]? = some (.cells cs e fz) := by
  obtain ⟨_, _, h3, h4, _⟩ := hv
  rcases hb with ⟨c, y, rfl, hy⟩ | ⟨xs, y, hr, hn, hne, hy⟩
  · obtain ⟨o, ho⟩ := offP_ex path c y hy
    obtain ⟨b', es, ty, e1, e2, e3, _⟩ := g.ok id _ h0
    refine ⟨_, h3 c o h0 ho, es.toArray, ty, (0, 0), ?_⟩
    rw [e1]
    exact e3
  · obtain ⟨o, ho⟩ := offP_ex path (.st xs) y hy
    refine ⟨_, h4 b xs o h0 hr hn ho, ?_⟩
    have hpos : 0 < xs.length := by
      cases path with
      | nil => exact absurd rfl hne
      | cons f q =>
        simp only [getP] at hy
        cases xs with
        | nil => simp at hy
        | cons _ _ => simp
    have hk := g.ok id b h0
    cases b with
    | row t e k ys =>
      have : ys = xs := hr
      subst this
      obtain ⟨es, r1, _⟩ := hk
      exact owns_cells r1 hpos
    | opn e k gg j m =>
      have : gg .nil = xs := hr
      subst this
      obtain ⟨pre, post, u, p, r1, _⟩ := hk
      exact owns_cells r1 hpos
    | _ => exact hr.elim

/-- A load that the logic lets by yields the same behind what only grows. -/
theorem loadE_stay (hE : EnvOK E) (s : Sim X B W0 ⟨ts, H⟩ a w pl) {t : TypeId} {x : Operand} {K : LV → Prop} {v : Value} (h : loadE E.T H t (ev ts x) K) (hr : (Instr.loadAt t (a.eval x)).run E.P w = .ok v w) :
    ∀ w', Below w.heap.size w w' → (Instr.loadAt t (a.eval x)).run E.P w' = .ok v w' := by
  intro w' hb
  have hx := ev_sound s x
  have ex0 : ev (St.mk ts H).tmps x = ev ts x := rfl
  rw [ex0] at hx
  have fin : ∀ ad, a.eval x = .pointer (some ad) → (∃ cs e fz, w.heap[ad.block]? = some (.cells cs e fz)) → (Instr.loadAt t (a.eval x)).run E.P w' = .ok v w' := by
    intro ad e1 hc
    rw [e1] at hr ⊢
    simp only [Instr.loadAt, Instr.sureAddr, Sem.run_bind, Sem.run_pure, Result.andThen_ok] at hr ⊢
    exact loadVar_stable hb hc hr
  unfold loadE at h
  cases hi : E.T t with
  | none => rw [hi] at h; exact h.elim
  | some i =>
    rw [hi] at h
    have hty := hE.t t i hi
    simp only at h
    cases e : ev ts x <;> rw [e] at h hx <;> try exact h.elim
    case ref c =>
      simp only [RT, RT1, RC] at hx
      obtain ⟨ad, es, h1, h2, h3, h4, h5⟩ := hx
      simp at h1
      simp only at h
      cases hf : fitT i c <;> rw [hf] at h
      · exact h.elim
      cases es with
      | cons u us =>
        refine fin ad h1 ?_
        have h6 : w.cell? ⟨ad.block, ad.off + 0, none⟩ = some u := h5.2 0 u rfl
        have hsp := h5.1
        have ha0 : (⟨ad.block, ad.off + 0, none⟩ : Addr).block = ad.block := rfl
        unfold World.cell? at h6
        simp only at h6
        cases hh : w.heap[ad.block]? with
        | none => rw [hh] at h6; cases h6
        | some ob =>
          rw [hh] at h6
          cases ob <;> simp only at h6 <;> first | exact ⟨_, _, _, rfl⟩ | cases h6
      | nil =>
        rw [h1] at hr ⊢
        simp only [Instr.loadAt, Instr.sureAddr, Sem.run_bind, Sem.run_pure, Result.andThen_ok] at hr ⊢
        have hz : c.size = 0 := by have := RC.len _ _ h4; simpa using this.symm
        obtain ⟨v1, q1, q2, _⟩ := run_loadVar (w := w) hty h4 hf h5
        obtain ⟨v2, p1, p2, _⟩ := run_loadVar (w := w') hty h4 hf (ad := ad) ⟨h5.1, fun j u hu => by simp at hu⟩
        rw [hr] at q1
        cases q1
        have hst : ∃ fs, c = .st fs := by cases c <;> simp [LV.size] at hz <;> exact ⟨_, rfl⟩
        obtain ⟨fs, rfl⟩ := hst
        obtain ⟨c1, rfl, k1⟩ := q2
        obtain ⟨c2, rfl, k2⟩ := p2
        simp only [LV.size] at hz
        have l1 := RCs.len _ _ k1
        have l2 := RCs.len _ _ k2
        rw [hz] at l1 l2
        have e1 : c1 = #[] := Array.eq_empty_of_size_eq_zero (by simpa using l1)
        have e2 : c2 = #[] := Array.eq_empty_of_size_eq_zero (by simpa using l2)
        rw [p1, e1, e2]
    case hp id n path =>
      simp only [RT, RT1, RC] at hx
      obtain ⟨u, h1, h2⟩ := hx
      simp at h1
      subst h1
      simp only at h
      cases h0 : H[id]? with
      | none => rw [h0] at h; exact h.elim
      | some b =>
        rw [h0] at h
        cases b with
        | box c =>
          simp only at h
          cases hg : getP c path with
          | none => rw [hg] at h; exact h.elim
          | some y =>
            obtain ⟨ad, k1, k2⟩ := hp_cells s.good h2 h0 (.inl ⟨c, y, rfl, hg⟩)
            exact fin ad k1 k2
        | row tt e1 k1 xs =>
          have hh : ∃ y, n = xs.length ∧ path ≠ [] ∧ getP (.st xs) path = some y := by
            cases tt with
            | false => obtain ⟨a1, a2, y, a3, _⟩ := h; exact ⟨y, a1, a2, a3⟩
            | true => obtain ⟨a1, a2, y, a3, _⟩ := h; exact ⟨y, a1, a2, a3⟩
          obtain ⟨y, a1, a2, a3⟩ := hh
          obtain ⟨ad, k1, k2⟩ := hp_cells s.good h2 h0 (.inr ⟨xs, y, rfl, a1, a2, a3⟩)
          exact fin ad k1 k2
        | _ => exact h.elim

theorem loadT_stay (hE : EnvOK E) (s : Sim X B W0 ⟨ts, H⟩ a w pl) {t : TypeId} {x : Operand} {K : LV → List Blk → Prop} {v : Value} (h : loadT E.T H t (ev ts x) K) (hr : (Instr.loadAt t (a.eval x)).run E.P w = .ok v w) :
    ∀ w', Below w.heap.size w w' → (Instr.loadAt t (a.eval x)).run E.P w' = .ok v w' := by
  intro w' hb
  have hx := ev_sound s x
  have ex0 : ev (St.mk ts H).tmps x = ev ts x := rfl
  rw [ex0] at hx
  unfold loadT at h
  cases hi : E.T t with
  | none => rw [hi] at h; exact h.elim
  | some i =>
    rw [hi] at h
    simp only at h
    split at h
    rotate_left
    · exact h.elim
    rename_i id n f q e
    rw [e] at hx
    simp only [RT, RT1, RC] at hx
    obtain ⟨u, h1, h2⟩ := hx
    simp at h1
    subst h1
    split at h
    rotate_left
    · exact h.elim
    rename_i e1 k1 xs h0
    obtain ⟨hn, z, y, hz, hy, _⟩ := h
    obtain ⟨ad, k1, k2⟩ := hp_cells s.good h2 h0 (.inr ⟨xs, y, rfl, hn, by simp, by simp only [getP, hz]; exact hy⟩)
    rw [k1] at hr ⊢
    simp only [Instr.loadAt, Instr.sureAddr, Sem.run_bind, Sem.run_pure, Result.andThen_ok] at hr ⊢
    exact loadVar_stable hb k2 hr

theorem loadF_stay (hE : EnvOK E) (s : Sim X B W0 ⟨ts, H⟩ a w pl) {t : TypeId} {x : Operand} {K : LV → List Blk → Prop} {v : Value} (h : loadF E ts H t x K) (hr : (Instr.loadAt t (a.eval x)).run E.P w = .ok v w) :
    ∀ w', Below w.heap.size w w' → (Instr.loadAt t (a.eval x)).run E.P w' = .ok v w' := by
  have go : (loadE E.T H t (ev ts x) fun v => K v H) → ∀ w', Below w.heap.size w w' → (Instr.loadAt t (a.eval x)).run E.P w' = .ok v w' := fun h => loadE_stay hE s h hr
  unfold loadF at h
  split at h
  · rename_i id n f q ep
    split at h
    · exact loadT_stay hE s (by rw [ep]; exact h) hr
    · rename_i e k g j m h0
      unfold loadO at h
      cases hi : E.T t with
      | none => rw [hi] at h; exact h.elim
      | some i =>
        rw [hi] at h
        simp only [h0] at h
        rcases h with ⟨rfl, hn, hu, _, _⟩ | h
        · intro w' hb
          have hx := ev_sound s x
          have ex0 : ev (St.mk ts H).tmps x = ev ts x := rfl
          rw [ex0, ep] at hx
          simp only [RT, RT1, RC] at hx
          obtain ⟨u, h1, h2⟩ := hx
          simp at h1
          subst h1
          obtain ⟨pre, post, v0, p, r1, r2, r3, r4, r5, r6, r7, r8⟩ := s.good.ok id _ h0
          have hlen : (g (.tup [])).length = (g .nil).length := by
            have h7 := r7 (.tup [])
            cases p with
            | nil => simp [getP] at r5
            | cons f' q' =>
              simp only [setP] at h7
              split at h7 <;> simp only [LV.st.injEq] at h7 <;> rw [← h7] <;> simp
          have hlt : f < (g .nil).length := by rw [← hlen]; exact lt_of_get hu
          obtain ⟨ad, k1, k2⟩ := hp_cells s.good h2 h0 (.inr ⟨g .nil, (g .nil)[f], rfl, hn, by simp, by simp [getP, hlt]⟩)
          rw [k1] at hr ⊢
          simp only [Instr.loadAt, Instr.sureAddr, Sem.run_bind, Sem.run_pure, Result.andThen_ok] at hr ⊢
          exact loadVar_stable hb k2 hr
        · obtain ⟨H2, pl2, k1, s2, _⟩ := closeK_sound s h
          exact loadT_stay hE s2 (by rw [ep]; exact k1) hr
    · exact go (by rw [ep]; exact h)
  · exact go h

theorem PS.congr {P : Program} {α : Type} {s s' : Sem α} (h : ∀ w, s.run P w = s'.run P w) (k : PS P s') : PS P s := fun w x w1 hr => by
  rw [h w] at hr
  obtain ⟨h1, h2⟩ := k w x w1 hr
  exact ⟨h1, fun w' => (h w').trans (h2 w')⟩

theorem PS_fieldAt (hT : TabOK E.P E.T) {t : TypeId} {p : LV} {u : Value} {f : Nat} {K : LV → Prop} (h : fieldAddrW E.T H t p f K) : PS E.P (Instr.fieldAt t u f) := by
  unfold fieldAddrW at h
  split at h
  · rename_i fts offs sz by' hi
    obtain ⟨d, hd, hd2, _⟩ := (hT t _ hi).und
    obtain ⟨fs', rfl, hfts, hoffs⟩ := kind_struct hd2
    split at h
    · rename_i ft off hft hoff
      obtain ⟨h0, h⟩ := h
      have hfld : ∃ fl, fs'[f]? = some fl ∧ fl.type = ft ∧ fl.offset = off := by
        rw [hfts, List.getElem?_map] at hft
        rw [hoffs, List.getElem?_map] at hoff
        simp only [Array.getElem?_toList, Option.map_eq_some_iff] at hft hoff
        obtain ⟨fl, h1, h2⟩ := hft
        obtain ⟨fl', h1', h3⟩ := hoff
        rw [h1] at h1'
        cases h1'
        exact ⟨fl, h1, h2, h3⟩
      obtain ⟨fl, hfl, rfl, rfl⟩ := hfld
      have hsz : ∃ n, n ≠ 0 ∧ ∀ w : World, (sizeOf fl.type).run E.P w = .ok n w := by
        split at h0
        · rename_i fi hfi; exact ⟨_, h0, fun w => run_sizeOf (hT _ _ hfi) w⟩
        · exact h0.elim
      obtain ⟨n0, hn0, hsz⟩ := hsz
      refine PS.congr (s' := (do let a ← Instr.sureAddr u; Pure.pure (.pointer (some (a.add fl.offset))))) (fun w => ?_) (PS.bind (PS.sureAddr u) fun _ => PS.pure _)
      simp [Instr.fieldAt, run_underlying hd, hfl, fieldPlace, hsz, hn0]
    · exact h.elim
  · exact h.elim

/-- What the head may do besides the call. -/
def rdcB (o : Oper) : Bool := (match o.op with | .move _ | .assign _ | .load _ _ | .indexAddr _ _ _ | .fieldAddr _ _ _ => true | _ => false) && o.guard.isNone
theorem opF_stay (hE : EnvOK E) (s : Sim X B W0 ⟨ts, H⟩ a w pl) {o : Oper} (hr : rdcB o = true) {K : LV → List Blk → Prop} (h : opF E o ts H K) :
    o.guard = none ∧ ∃ v, StY E.P o v a w ∧ ∃ x H' pl', K x H' ∧ Sim X B W0 ⟨ts, H'⟩ a w pl' ∧ RT (ctx X H' pl' w) x v ∧ (ctx X H pl w).Le (ctx X H' pl' w) := by
  simp only [rdcB, Bool.and_eq_true, Option.isNone_iff_eq_none] at hr
  obtain ⟨hop, hg⟩ := hr
  refine ⟨hg, ?_⟩
  have hrd : rdB o = true := by
    unfold rdB
    cases e : o.op <;> rw [e] at hop <;> first | rfl | cases hop
  obtain ⟨v, hv, rest⟩ := opF_still hE s hrd h
  refine ⟨v, ?_, rest⟩
  intro w' hb
  cases e : o.op <;> rw [e] at hop <;> first | (cases hop; done) | skip
  case move x =>
    simp only [execOp, e, Sem.run_pure] at hv ⊢
    cases hv; rfl
  case assign x =>
    simp only [execOp, e, Sem.run_pure] at hv ⊢
    cases hv; rfl
  case load t x =>
    simp only [execOp, e, Sem.run_bind] at hv ⊢
    cases h0 : (Instr.loadAt t (a.eval x)).run E.P w with
    | halt p q => rw [h0] at hv; cases hv
    | ok u w1 =>
      rw [h0] at hv
      simp only [Result.andThen_ok, Sem.run_pure] at hv
      cases hv
      unfold opF at h
      rw [e] at h
      rw [loadF_stay hE s h h0 w' hb]
      rfl
  case indexAddr t x ix =>
    have hp : PS E.P (execOp a.eval o) := by
      simp only [execOp, e]
      exact PS.bind (PS.indexAt _ _ _) fun _ => PS.pure _
    exact (hp w _ w hv).2 w'
  case fieldAddr t x f =>
    unfold opF at h
    rw [e] at h
    simp only at h
    obtain ⟨H2, p2, K2, h⟩ := fieldAddrF_ex h
    have hp : PS E.P (execOp a.eval o) := by
      simp only [execOp, e]
      exact PS.bind (PS_fieldAt hE.t h) fun _ => PS.pure _
    exact (hp w _ w hv).2 w'

/-- The call, by a contract that does not write what it is lent. -/
def clB (hf : List Nat) (o : Oper) : Bool := (match o.op with | .call ⟨.value (.func g), _, _⟩ => !memB hf g | _ => false) && o.guard.isNone
theorem callW_stay {P : Program} (s : Sim X B W0 ⟨ts, H⟩ a w pl) {o : Oper} {g : FuncId} {xs : List LV} {vs : Array Value} (hlen : vs.size = xs.length) (hrt : ∀ (i : Nat) x v, xs[i]? = some x → vs[i]? = some v → RT (ctx X H pl w) x v)
    (hr0 : (execOp a.eval o).run P w = (callFunc g vs).run P w) {K : LV → Prop} (h : callW P H g xs K) :
    (execOp a.eval o).run P w = .ok (.enter g vs) w ∧ Calls P g vs w fun e w'' => ∃ v, e = .returned v ∧ Below w.heap.size w w'' ∧ ∃ x, K x ∧ Sim X B W0 ⟨ts, H⟩ a w'' pl ∧ RT (ctx X H pl w'') x v := by
  unfold callW at h
  obtain ⟨ys, b, ⟨r, hsp, hk⟩, k2, k3⟩ := lendV_sound s.good xs vs.toList _ (by simpa using hlen) (fun i x v hx hv => hrt i x v hx (by simpa using hv)) h
  unfold FSpec at hsp
  obtain ⟨hcall, hspec⟩ := hsp
  split at hk
  · rename_i hflag
    refine ⟨by rw [hr0, hcall], ?_⟩
    have hsz : vs.size = ys.length := by rw [k2, hlen]
    cases b with
    | false =>
      refine (hspec w (owned X H pl) _ s.good.inv (fun b hb => owned_lt s.good hb) hsz (fun i y v hy hv => (k3 i y v hy (by simpa using hv)).2 rfl)).mono ?_
      rintro e' w' ⟨v, rfl, hb, bs, hnd, hrr⟩
      exact ⟨v, rfl, hb, _, hk, s.grow hb, RR_dm (ρ := ctx X H pl w') ⟨rfl, fun b hb' => ⟨.inl hb', owned_lt s.good hb'⟩⟩ hrr⟩
    | true =>
      refine (hspec w (fun _ => False) _ s.good.inv (fun b hb => hb.elim) hsz (fun i y v hy hv => (k3 i y v hy (by simpa using hv)).1)).mono ?_
      rintro e' w' ⟨v, rfl, hb, bs, hnd, hrr⟩
      exact ⟨v, rfl, hb, _, hk, s.grow hb, RR_flat (ρ := ctx X H pl w') ⟨rfl, fun b hb' => owned_lt s.good hb'⟩ (by simpa using hflag) hrr⟩
  · exact hk.elim
theorem op_call_stay (hE : EnvOK E) (s : Sim X B W0 ⟨ts, H⟩ a w pl) {o : Oper} (hc : clB E.hf o = true) {K : LV → List Blk → Prop} (h : opF E o ts H K) :
    o.guard = none ∧ ∃ g vs, (execOp a.eval o).run E.P w = .ok (.enter g vs) w ∧ Calls E.P g vs w fun e w'' => ∃ v, e = .returned v ∧ Below w.heap.size w w'' ∧ ∃ x, K x H ∧ Sim X B W0 ⟨ts, H⟩ a w'' pl ∧ RT (ctx X H pl w'') x v := by
  simp only [clB, Bool.and_eq_true, Option.isNone_iff_eq_none] at hc
  obtain ⟨hop, hg⟩ := hc
  refine ⟨hg, ?_⟩
  split at hop
  rotate_left
  · cases hop
  rename_i g args ats e
  unfold opF at h
  rw [e] at h
  simp only [opW, e] at h
  have hev : ev ts (.func g) = .clos g [] := rfl
  rw [hev] at h
  simp only [callG, List.all_nil, List.append_nil] at h
  have hm : memB E.hf g = false := by simpa using hop
  rw [hm] at h
  simp only at h
  have hr0 : (execOp a.eval o).run E.P w = (callFunc g (args.map a.eval)).run E.P w := by
    simp only [execOp, e, resolve]
    simp [Deferred.ofValue, Act.eval, invoke]
  refine ⟨g, args.map a.eval, callW_stay s (by simp) (fun i x v hx hv => ?_) hr0 h⟩
  rw [← Array.getElem?_toList, Array.toList_map] at hv
  rw [List.getElem?_map] at hx hv
  cases hq : args.toList[i]? with
  | none => rw [hq] at hx; cases hx
  | some q =>
    rw [hq] at hx hv
    cases hx; cases hv
    exact ev_sound s q

def callB (hf : List Nat) (n : Nat) (ops : Array Oper) : Bool := Region.lexTailB .any ops n && Nat.blt 0 n && (match ops[n - 1]? with | some o => clB hf o | none => false) && (ops.toList.take (n - 1)).all rdcB
theorem opsF_hd (hE : EnvOK E) {all : Array Oper} {oc : Oper} (hoc : clB E.hf oc = true) {T : Act → World → Prop} {K : List LV → List Blk → Prop}
    (hK : ∀ ts H a w pl, K ts H → Sim X B W0 ⟨ts, H⟩ a w pl → T a w) : ∀ (l : List Oper) (ts : List LV) (H : List Blk) (a : Act) (pl : Nat → PV), l.all rdcB = true →
    opsF E all (l ++ [oc]) ts H K → Sim X B W0 ⟨ts, H⟩ a w pl → hdRun E.P oc T l a w
  | [], ts, H, a, pl, _, h, s => by
    rw [List.nil_append, opsF_c] at h
    have hg : oc.guard = none := by simp only [clB, Bool.and_eq_true, Option.isNone_iff_eq_none] at hoc; exact hoc.2
    unfold opsStepF at h
    rw [hg] at h
    obtain ⟨_, g, vs, h1, h2⟩ := op_call_stay hE s hoc h
    refine ⟨g, vs, h1, h2.mono ?_⟩
    rintro e w'' ⟨v, rfl, hb, x, hk, s', hv⟩
    refine ⟨v, rfl, hb, ?_⟩
    rw [putK_eq] at hk
    exact hK _ _ _ _ _ hk (s'.putO oc hv)
  | o :: l, ts, H, a, pl, hall, h, s => by
    simp only [List.all_cons, Bool.and_eq_true] at hall
    rw [List.cons_append, opsF_c] at h
    have hg : o.guard = none := by have := hall.1; simp only [rdcB, Bool.and_eq_true, Option.isNone_iff_eq_none] at this; exact this.2
    unfold opsStepF at h
    rw [hg] at h
    obtain ⟨_, v, hy, x, H', pl', k1, k2, k3, _⟩ := opF_stay hE s hall.1 h
    rw [putK_eq] at k1
    exact ⟨hg, v, hy, opsF_hd hE hoc hK l _ H' _ pl' hall.2 k1 (k2.putO o k3)⟩

theorem callT_sound (hE : EnvOK E) {all : Array Oper} {n : Nat} (hd : callB E.hf n all = true) {K : List LV → List Blk → Prop} {Q : Exit → Act → World → Prop}
    (hK : ∀ ts H a w pl, K ts H → Sim X B W0 ⟨ts, H⟩ a w pl → Q .normal a w) (h : opsF E all all.toList ts H K) (s : Sim X B W0 ⟨ts, H⟩ a w pl) : RgD E.P all Q a w := by
  simp only [callB, Bool.and_eq_true, Nat.blt_eq] at hd
  obtain ⟨⟨⟨h1, h2⟩, h3⟩, h4⟩ := hd
  cases hoc : all[n - 1]? with
  | none => rw [hoc] at h3; cases h3
  | some oc =>
    rw [hoc] at h3
    have s := s.grow (w' := { w with drawn := w.drawn + 1 }) ⟨rfl, rfl, rfl, Nat.le_refl _, fun _ _ => rfl, Nat.le_succ _⟩
    have hlt : n - 1 < all.toList.length := by
      have := (Array.getElem?_eq_some_iff.1 hoc).1
      simpa using this
    have hel : all.toList[n - 1]? = some oc := by rw [Array.getElem?_toList]; exact hoc
    have hsplit : all.toList.take n = all.toList.take (n - 1) ++ [oc] := by
      have e : n = (n - 1) + 1 := by omega
      conv => lhs; rw [e]
      rw [List.take_succ_eq_append_getElem hlt]
      rw [List.getElem?_eq_getElem hlt] at hel
      rw [Option.some.inj hel]
    rw [← List.take_append_drop n all.toList, opsF_append, hsplit] at h
    have hg : oc.guard = none := by have := h3; simp only [clB, Bool.and_eq_true, Option.isNone_iff_eq_none] at this; exact this.2
    have h5 := opsF_hd hE h3 (T := fun a' w' => wpList E.P all Q (all.toList.drop n) a' w')
      (fun ts H a w pl k s => opsF_sound hE hK _ ts H a w pl k s) _ ts H a pl h4 h s
    have := wp_region_call_tail (P := E.P) (Q := Q) (a := a) (w := w) (l := all.toList) n (by simpa using h1) h2 hg hel (by simpa using h5)
    simpa using this

/-- Either way of a head in any order. -/
def okB (hf : List Nat) (n : Nat) (ops : Array Oper) : Bool := stillB n ops || callB hf n ops
theorem okB_sound (hE : EnvOK E) {all : Array Oper} {n : Nat} (hd : okB E.hf n all = true) {K : List LV → List Blk → Prop} {Q : Exit → Act → World → Prop}
    (hK : ∀ ts H a w pl, K ts H → Sim X B W0 ⟨ts, H⟩ a w pl → Q .normal a w) (h : opsF E all all.toList ts H K) (s : Sim X B W0 ⟨ts, H⟩ a w pl) : RgD E.P all Q a w := by
  unfold okB at hd
  rcases Bool.or_eq_true _ _ ▸ hd with h1 | h1
  · exact still_sound hE h1 hK h s
  · exact callT_sound hE h1 hK h s
end
end Go.Lg

