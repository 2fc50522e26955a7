/- Regions whose order is open, with one operation behind all the others: it may write what the region has not laid. -/
import Derived.Test.YtbiagkccgijdlaaGreatALgZP
namespace Go.Lg
variable [GI]
set_option linter.unusedSectionVars false
set_option linter.unusedVariables false
set_option linter.unusedSimpArgs false
open Go.RowKit

/-- Each operation stands behind earlier ones alone. -/
def fwdB (all : Array Oper) : Bool := (List.range all.size).all fun i => match all[i]? with | some o => o.after.all fun e => !Region.binds .any e || Nat.blt e.on i | none => true
def idle (o : Oper) : Oper := { o with op := .assign (.const (.bool true)), dst := none, guard := none }
def isIdle (o : Oper) : Bool := (match o.op with | .assign (.const (.bool true)) => true | _ => false) && o.dst.isNone && o.guard.isNone
def behindB (o : Oper) (j : Nat) : Bool := o.after.any fun e => Region.binds .any e && Nat.beq e.on j
/-- Behind it, or behind what it stands behind. -/
def behindT (all : Array Oper) : Nat → Nat → Nat → Bool
  | 0, m, j => match all[m]? with | some o => behindB o j | none => false
  | f + 1, m, j => match all[m]? with | some o => behindB o j || o.after.any fun e => Region.binds .any e && behindT all f e.on j | none => false
/-- Number 'm' stands behind all before it, those behind it are idle. -/
def lastAt (all : Array Oper) (L0 : Array Bool) (m : Nat) : Bool := (match all[m]? with
  | some o => o.guard.isNone && (List.range m).all fun j => L0.getD j false || behindT all m m j
  | none => false) && fwdB all && (List.range all.size).all fun i => match all[i]? with
    | some o => (Nat.ble i m || isIdle o) && (match o.guard with | none => true | some g => !Nat.beq g.1 m)
    | none => true
/-- The same, that one idle. -/
def swapAt (all : Array Oper) (m : Nat) : Array Oper := match all[m]? with
  | some o => all.setIfInBounds m (idle o)
  | none => all
def swapN (all : Array Oper) : Nat → Array Oper
  | 0 => all
  | k + 1 => swapAt (swapN all k) (all.size - 1 - k)
/-- The last ones may be made idle one after the other. -/
def lastsB (all : Array Oper) (L0 : Array Bool) (k : Nat) : Bool := (List.range k).all fun i => lastAt (swapN all i) L0 (all.size - 1 - i)

section
variable {all : Array Oper} {m : Nat}
theorem swap_size : (swapAt all m).size = all.size := by unfold swapAt; split <;> simp
theorem swapN_size : ∀ k, (swapN all k).size = all.size
  | 0 => rfl
  | k + 1 => by rw [swapN, swap_size, swapN_size k]
theorem swap_ne {i : Nat} (h : i ≠ m) : (swapAt all m)[i]? = all[i]? := by
  unfold swapAt
  split
  · rw [Array.getElem?_setIfInBounds_ne (Ne.symm h)]
  · rfl
theorem swapN_lt : ∀ (k : Nat) {i : Nat}, i + k < all.size → (swapN all k)[i]? = all[i]?
  | 0, _, _ => rfl
  | k + 1, i, h => by rw [swapN, swap_ne (by omega), swapN_lt k (by omega)]
theorem lt_of_some {o : Oper} (h : all[m]? = some o) : m < all.size := by
  rcases Nat.lt_or_ge m all.size with h' | h'
  · exact h'
  · rw [Array.getElem?_eq_none h'] at h; cases h
theorem swap_at {o : Oper} (h : all[m]? = some o) : (swapAt all m)[m]? = some (idle o) := by
  unfold swapAt
  rw [h]
  simp [lt_of_some h]
theorem swap_after (i : Nat) : (swapAt all m)[i]?.map (·.after) = all[i]?.map (·.after) := by
  by_cases h : i = m
  · subst h
    cases ho : all[i]? with
    | none => unfold swapAt; rw [ho]; simp [ho]
    | some o => rw [swap_at ho]; rfl
  · rw [swap_ne h]
theorem swap_ready (listed : Array Bool) : Region.ready .any (swapAt all m) listed = Region.ready .any all listed := by
  unfold Region.ready
  rw [swap_size]
  refine List.filter_congr fun i _ => ?_
  have := swap_after (all := all) (m := m) i
  have e : ∀ x : Option Oper, (x.map fun o => o.after.all fun e => !Region.binds .any e || listed.getD e.on false) = (x.map (·.after)).map fun s => s.all fun e => !Region.binds .any e || listed.getD e.on false := fun x => by cases x <;> rfl
  rw [e, e, this]
theorem swap_yielded (t : Array Value) {j : Nat} (h : j ≠ m) : yielded (swapAt all m) t j = yielded all t j := by
  unfold yielded
  rw [swap_ne h]

theorem ready_some (hb : fwdB all = true) {listed : Array Bool} {k : Nat} (hk : listed.getD k true = false) (hs : listed.size = all.size) : Region.ready .any all listed ≠ [] := by
  simp only [fwdB, List.all_eq_true, List.mem_range] at hb
  have hex : ∃ k, listed.getD k true = false := ⟨k, hk⟩
  obtain ⟨k, hk, hmin⟩ : ∃ k, listed.getD k true = false ∧ ∀ j, j < k → listed.getD j true = true := by
    clear hk
    obtain ⟨k, hk⟩ := hex
    induction k using Nat.strongRecOn with
    | _ k ih =>
      by_cases h : ∃ j, j < k ∧ listed.getD j true = false
      · obtain ⟨j, h1, h2⟩ := h; exact ih j h1 h2
      · refine ⟨k, hk, fun j hj => ?_⟩
        cases hx : listed.getD j true with
        | true => rfl
        | false => exact absurd ⟨j, hj, hx⟩ h
  have hlt : k < all.size := by
    rw [← hs]
    rcases Nat.lt_or_ge k listed.size with h | h
    · exact h
    · rw [Array.getD_eq_getD_getElem?, Array.getElem?_eq_none h] at hk; simp at hk
  intro hr
  have hm : k ∈ Region.ready .any all listed := by
    unfold Region.ready
    rw [List.mem_filter]
    refine ⟨List.mem_range.2 hlt, ?_⟩
    rw [hk]
    have h2 := hb k hlt
    have ho : all[k]? = some all[k] := Array.getElem?_eq_getElem hlt
    rw [ho] at h2 ⊢
    simp only [Array.all_eq_true] at h2
    simp only [Bool.not_false, Bool.true_and, Option.map_some, Option.getD_some]
    rw [Array.all_eq_true]
    intro i hi
    have h3 := h2 i hi
    cases hbn : Region.binds .any all[k].after[i] with
    | false => simp
    | true =>
    rw [hbn] at h3
    have hlt2 : (all[k].after[i]).on < k := by simpa [Nat.blt_eq] using h3
    have h4 := hmin _ hlt2
    have h5 : (all[k].after[i]).on < listed.size := by rw [hs]; omega
    rw [Array.getD_eq_getD_getElem?, Array.getElem?_eq_getElem h5] at h4 ⊢
    simp at h4 ⊢
    exact h4
  rw [hr] at hm
  cases hm

theorem wp_Q {P : Program} {o : Oper} {a : Act} {w : World} {K : Act → World → Prop} {Q Q' : Exit → Act → World → Prop} (h : o.wp P a w K Q') (hp : ∀ c a w, ¬ Q' (.panic c) a w) (ho : ∀ a w, ¬ Q' .outgrown a w) : o.wp P a w K Q := by
  unfold Oper.wp at *
  generalize (execOp a.eval o).run P w = r at *
  cases r with
  | ok n w' =>
    cases n with
    | enter f args =>
      rw [Oper.upon_enter] at *
      refine h.mono fun e w'' h' => ?_
      cases e with
      | returned v => exact h'
      | panicked c => exact absurd h' (hp _ _ _)
      | outgrown => obtain ⟨x, y, h'⟩ := h'; exact absurd h' (ho _ _)
    | _ => exact h
  | halt x w' => cases x <;> first | exact h | exact absurd h (hp _ _ _)

theorem wpAny_Q {P : Program} {Q Q' : Exit → Act → World → Prop} (hq : ∀ a w, Q' .normal a w → Q .normal a w) (hp : ∀ c a w, ¬ Q' (.panic c) a w) (ho : ∀ a w, ¬ Q' .outgrown a w) :
    ∀ (fuel : Nat) (listed : Array Bool) (a : Act) (w : World), wpAny P .any all Q' fuel listed a w → wpAny P .any all Q fuel listed a w
  | 0, _, _, _, h => ⟨h.1, hq _ _ h.2⟩
  | fuel + 1, listed, a, w, h => ⟨fun h1 => hq _ _ (h.1 h1), fun i hi => by
      have h2 := wpOp_mono (fun a w h => wpAny_Q hq hp ho fuel _ a w h) (h.2 i hi)
      unfold wpOp at h2 ⊢
      cases hx : all[i]? with
      | none => rw [hx] at h2; exact h2
      | some o =>
        rw [hx] at h2
        simp only at h2 ⊢
        split at h2
        · rename_i hw
          rw [if_pos hw]
          rcases h2 with h2 | ⟨_, x, y, h2⟩
          · exact .inl (wp_Q h2 hp ho)
          · exact absurd h2 (ho _ _)
        · rename_i hw
          rw [if_neg hw]; exact h2⟩
theorem idle_run {P : Program} {o : Oper} (h : isIdle o = true) (a : Act) (w : World) : (execOp a.eval o).run P w = .ok (.value (a.eval (.const (.bool true)))) w ∧ o.dst = none ∧ o.guard = none := by
  simp only [isIdle, Bool.and_eq_true, Option.isNone_iff_eq_none] at h
  obtain ⟨⟨h1, h2⟩, h3⟩ := h
  refine ⟨?_, h2, h3⟩
  split at h1
  · rename_i e; simp [execOp, e]
  · cases h1
theorem wpOp_idle {P : Program} {Q : Exit → Act → World → Prop} {i : Nat} {o : Oper} (ho : all[i]? = some o) (h : isIdle o = true) {K : Act → World → Prop} {a : Act} {w : World} (hk : K a w) : wpOp P all Q i K a w := by
  obtain ⟨h1, h2, h3⟩ := idle_run (P := P) h a w
  unfold wpOp
  rw [ho]
  simp only
  rw [if_pos (by simp [Region.wanted, h3])]
  refine .inl ?_
  unfold Oper.wp
  rw [h1, Oper.upon_value, h2]
  exact hk
theorem idle_wpOp {P : Program} {Q : Exit → Act → World → Prop} {i : Nat} {o : Oper} (ho : all[i]? = some o) (h : isIdle o = true) {K : Act → World → Prop} {a : Act} {w : World} (hq : ∀ a w, ¬ Q .outgrown a w) (hk : wpOp P all Q i K a w) : K a w := by
  obtain ⟨h1, h2, h3⟩ := idle_run (P := P) h a w
  unfold wpOp at hk
  rw [ho] at hk
  simp only at hk
  rw [if_pos (by simp [Region.wanted, h3])] at hk
  rcases hk with hk | ⟨_, x, y, hk⟩
  · unfold Oper.wp at hk
    rw [h1, Oper.upon_value, h2] at hk
    exact hk
  · exact absurd hk (hq _ _)
theorem ready_lt {listed : Array Bool} {i : Nat} (h : i ∈ Region.ready .any all listed) : listed.getD i true = false ∧ ∃ o, all[i]? = some o := by
  unfold Region.ready at h
  rw [List.mem_filter] at h
  simp only [Bool.and_eq_true, Bool.not_eq_true'] at h
  exact ⟨h.2.1, _, Array.getElem?_eq_getElem (List.mem_range.1 h.1)⟩
theorem set_unlisted {listed : Array Bool} {i j : Nat} (h : (listed.setIfInBounds i true).getD j true = false) : listed.getD j true = false := by
  by_cases hij : j = i
  · subst hij
    exfalso
    rw [Array.getD_eq_getD_getElem?] at h
    by_cases hl : j < listed.size
    · simp [hl] at h
    · rw [Array.getElem?_eq_none (by simpa using hl)] at h; simp at h
  · rw [Array.getD_eq_getD_getElem?, Array.getElem?_setIfInBounds_ne (Ne.symm hij)] at h
    rw [Array.getD_eq_getD_getElem?]; exact h
theorem idle_extract {P : Program} {Q : Exit → Act → World → Prop} (hq : ∀ a w, ¬ Q .outgrown a w) : ∀ (fuel : Nat) (listed : Array Bool) (a : Act) (w : World),
    (∀ i o, listed.getD i true = false → all[i]? = some o → isIdle o = true) → wpAny P .any all Q fuel listed a w → Q .normal a w
  | 0, _, _, _, _, h => h.2
  | fuel + 1, listed, a, w, hi, h => by
    cases hr : Region.ready .any all listed with
    | nil => exact h.1 hr
    | cons i r =>
      have hm : i ∈ Region.ready .any all listed := by rw [hr]; simp
      obtain ⟨h1, o, h2⟩ := ready_lt hm
      exact idle_extract hq fuel _ a w (fun j o' hj ho => hi j o' (set_unlisted hj) ho) (idle_wpOp h2 (hi i o h1 h2) hq (h.2 i hm))
theorem idle_transfer {P : Program} {A : Array Oper} {Q Q' : Exit → Act → World → Prop} (hq : ∀ a w, ¬ Q' .outgrown a w) (hA : ∀ listed, Region.ready .any A listed = Region.ready .any all listed) {a' : Act} {w' : World} (hQ : Q .normal a' w') :
    ∀ (fuel : Nat) (listed : Array Bool) (a : Act) (w : World), (∀ i o, listed.getD i true = false → all[i]? = some o → isIdle o = true ∧ A[i]? = some o) → wpAny P .any A Q' fuel listed a w → wpAny P .any all Q fuel listed a' w'
  | 0, listed, _, _, _, h => ⟨by rw [← hA]; exact h.1, hQ⟩
  | fuel + 1, listed, a, w, hi, h => ⟨fun _ => hQ, fun i hm => by
      obtain ⟨h1, o, h2⟩ := ready_lt hm
      obtain ⟨h3, h4⟩ := hi i o h1 h2
      exact wpOp_idle h2 h3 (idle_transfer hq hA hQ fuel _ a w (fun j o' hj ho => hi j o' (set_unlisted hj) ho) (idle_wpOp h4 h3 hq (h.2 i (by rw [hA]; exact hm))))⟩

/-- What is listed stands behind what is listed. -/
def ClosedL (all : Array Oper) (listed : Array Bool) : Prop := ∀ (i : Nat) (o : Oper), all[i]? = some o → listed.getD i false = true → ∀ e ∈ o.after, Region.binds .any e = true → listed.getD e.on false = true
theorem ready_after {listed : Array Bool} {i : Nat} {o : Oper} (hi : i ∈ Region.ready .any all listed) (ho : all[i]? = some o) : ∀ e ∈ o.after, Region.binds .any e = true → listed.getD e.on false = true := fun e he hb => by
  unfold Region.ready at hi
  rw [List.mem_filter] at hi
  have hi2 := hi.2
  rw [ho] at hi2
  simp only [Option.map_some, Option.getD_some, Bool.and_eq_true, Array.all_eq_true] at hi2
  obtain ⟨k, hk, rfl⟩ := Array.getElem_of_mem he
  have h3 := hi2.2 k hk
  rw [hb] at h3
  simpa using h3
theorem ClosedL.step {listed : Array Bool} (h : ClosedL all listed) {i : Nat} (hi : i ∈ Region.ready .any all listed) : ClosedL all (listed.setIfInBounds i true) := fun j o hj hl e he hb => by
  have keep : listed.getD e.on false = true → (listed.setIfInBounds i true).getD e.on false = true := getD_set_true
  by_cases hji : j = i
  · subst hji; exact keep (ready_after hi hj e he hb)
  · rw [getD_set_ne false (Ne.symm hji)] at hl
    exact keep (h j o hj hl e he hb)
theorem ClosedL.start {n : Nat} : ClosedL all (Array.replicate n false) := fun i o _ hl => by
  rw [getD_replicate_false] at hl; cases hl
theorem ClosedL.swapN {listed : Array Bool} (h : ClosedL all listed) : ∀ k, ClosedL (swapN all k) listed
  | 0 => h
  | k + 1 => fun i o ho hl => by
    have e := swap_after (all := Go.Lg.swapN all k) (m := all.size - 1 - k) i
    rw [show swapAt (Go.Lg.swapN all k) (all.size - 1 - k) = Go.Lg.swapN all (k + 1) from rfl, ho] at e
    cases ho' : (Go.Lg.swapN all k)[i]? with
    | none => rw [ho'] at e; cases e
    | some o' =>
      rw [ho'] at e
      have e2 : o.after = o'.after := by simpa using e
      rw [e2]
      exact ClosedL.swapN h k i o' ho' hl
theorem behindT_listed {listed : Array Bool} (hc : ClosedL all listed) {j : Nat} : ∀ (f m : Nat), (∀ o, all[m]? = some o → ∀ e ∈ o.after, Region.binds .any e = true → listed.getD e.on false = true) → behindT all f m j = true → listed.getD j false = true
  | f, m, hm, h => by
    have direct : ∀ o, all[m]? = some o → behindB o j = true → listed.getD j false = true := fun o ho hb => by
      unfold behindB at hb
      rw [Array.any_eq_true] at hb
      obtain ⟨k, hk, hk2⟩ := hb
      simp only [Bool.and_eq_true] at hk2
      have hj := Nat.eq_of_beq_eq_true hk2.2
      rw [← hj]
      exact hm o ho _ (Array.getElem_mem hk) hk2.1
    cases f with
    | zero =>
      unfold behindT at h
      cases ho : all[m]? with
      | none => rw [ho] at h; cases h
      | some o => rw [ho] at h; exact direct o ho h
    | succ f =>
      unfold behindT at h
      cases ho : all[m]? with
      | none => rw [ho] at h; cases h
      | some o =>
        rw [ho] at h
        simp only [Bool.or_eq_true] at h
        rcases h with h | h
        · exact direct o ho h
        · rw [Array.any_eq_true] at h
          obtain ⟨k, hk, hk2⟩ := h
          simp only [Bool.and_eq_true] at hk2
          have hl := hm o ho _ (Array.getElem_mem hk) hk2.1
          exact behindT_listed hc f _ (fun o' ho' e he hb => hc _ o' ho' hl e he hb) hk2.2

theorem swap_sound {P : Program} {L0 : Array Bool} (hb : lastAt all L0 m = true) {Q : Exit → Act → World → Prop} {R : Act → World → Prop}
    (hR : ∀ a w, R a w → wpOp P all Q m (fun a w => Q .normal a w) a w) :
    ∀ (fuel : Nat) (listed : Array Bool) (a : Act) (w : World), ClosedL all listed → listed.size = all.size → listed.getD m true = false → (∀ j, L0.getD j false = true → listed.getD j false = true) →
      wpAny P .any (swapAt all m) (fun e a w => e = .normal ∧ R a w) fuel listed a w → wpAny P .any all Q fuel listed a w
  | 0, listed, a, w, hcl, hs, hm, hL, h => by
    have h1 := h.1
    rw [swap_ready] at h1
    simp only [lastAt, Bool.and_eq_true] at hb
    exact absurd h1 (ready_some hb.1.2 hm hs)
  | fuel + 1, listed, a, w, hcl, hs, hm, hL, h => by
    have hb' := hb
    simp only [lastAt, Bool.and_eq_true, List.all_eq_true, List.mem_range] at hb
    obtain ⟨⟨hb1, hfw⟩, hb3⟩ := hb
    refine ⟨fun h1 => absurd h1 (ready_some hfw hm hs), fun i hi => ?_⟩
    have h2 := h.2 i (by rw [swap_ready]; exact hi)
    by_cases him : i = m
    · subst him
      cases ho : all[i]? with
      | none => rw [ho] at hb1; cases hb1
      | some o =>
        rw [ho] at hb1
        simp only [Bool.and_eq_true, List.all_eq_true, List.mem_range, Option.isNone_iff_eq_none] at hb1
        obtain ⟨hg, haf⟩ := hb1
        have hlt := lt_of_some ho
        have hlist : ∀ j, j < i → listed.getD j false = true := fun j hj => by
          have h7 := haf j hj
          rw [Bool.or_eq_true] at h7
          rcases h7 with h7 | h7
          · exact hL j h7
          · exact behindT_listed hcl i i (fun o' ho' => ready_after hi ho') h7
        have hun : ∀ j o', (listed.setIfInBounds i true).getD j true = false → all[j]? = some o' → isIdle o' = true ∧ (swapAt all i)[j]? = some o' := fun j o' hj hoj => by
          have hne : j ≠ i := by
            intro e
            subst e
            rw [Array.getD_eq_getD_getElem?] at hj
            simp [hs, hlt] at hj
          have hgt : ¬ j ≤ i := fun hle => by
            have h6 := hlist j (by omega)
            have h5 := set_unlisted hj
            have hjs : j < listed.size := by rw [hs]; exact lt_of_some hoj
            rw [Array.getD_eq_getD_getElem?, Array.getElem?_eq_getElem hjs] at h5 h6
            simp at h5 h6
            rw [h5] at h6; cases h6
          have h3 := hb3 j (lt_of_some hoj)
          rw [hoj] at h3
          simp only [Bool.and_eq_true, Bool.or_eq_true] at h3
          rcases h3.1 with h4 | h4
          · exact absurd (Nat.le_of_ble_eq_true h4) hgt
          · exact ⟨h4, by rw [swap_ne hne]; exact hoj⟩
        have hnq : ∀ a w, ¬ (fun (e : Exit) (a : Act) (w : World) => e = .normal ∧ R a w) .outgrown a w := fun a w h => by cases h.1
        have hid : isIdle (idle o) = true := rfl
        have h4 := idle_wpOp (swap_at ho) hid hnq h2
        have hRaw : R a w := (idle_extract hnq fuel _ a w (fun j o' hj hoj => by
          by_cases hji : j = i
          · subst hji
            rw [swap_at ho] at hoj; cases hoj; exact hid
          · rw [swap_ne hji] at hoj
            exact (hun j o' hj hoj).1) h4).2
        exact wpOp_mono (fun a' w' hq => idle_transfer hnq (fun l => swap_ready l) hq fuel _ a w hun h4) (hR a w hRaw)
    · have IH : ∀ a w, wpAny P .any (swapAt all m) (fun e a w => e = .normal ∧ R a w) fuel (listed.setIfInBounds i true) a w → wpAny P .any all Q fuel (listed.setIfInBounds i true) a w := fun a w h' =>
        swap_sound hb' hR fuel _ a w (hcl.step hi) (by simp [hs]) (by
          rw [Array.getD_eq_getD_getElem?] at hm ⊢
          rw [Array.getElem?_setIfInBounds_ne him]; exact hm) (fun j hj => getD_set_true (hL j hj)) h'
      unfold wpOp at h2 ⊢
      rw [swap_ne him] at h2
      cases ho : all[i]? with
      | none => rw [ho] at h2; exact IH _ _ h2
      | some o =>
        rw [ho] at h2
        simp only at h2 ⊢
        have hw : Region.wanted o (yielded (swapAt all m) a.tmps) = Region.wanted o (yielded all a.tmps) := by
          have h3 := hb3 i (lt_of_some ho)
          rw [ho] at h3
          simp only [Bool.and_eq_true] at h3
          unfold Region.wanted
          cases hgd : o.guard with
          | none => rfl
          | some g =>
            rw [hgd] at h3
            have h5 : g.1 ≠ m := fun e => by
              have := h3.2
              simp [e] at this
            simp only
            rw [swap_yielded _ h5]
        rw [hw] at h2
        split at h2
        · rename_i hwt
          rw [if_pos hwt]
          rcases h2 with h2 | h2
          · exact .inl (wp_Q (Oper.wp_mono (fun a w => IH a w) h2) (fun c a w h' => by cases h'.1) (fun a w h' => by cases h'.1))
          · obtain ⟨_, x, y, hx⟩ := h2
            cases hx.1
        · rename_i hwt
          rw [if_neg hwt]
          exact IH _ _ h2
end
section
variable {E : Env} {X : Nat → Prop} {B : Nat} {W0 : Orig} {ts : List LV} {H : List Blk} {a : Act} {pl : Nat → PV} {w : World}
/-- What stands at the last operations. -/
def tailW (E : Env) (all : Array Oper) (k : Nat) (ts : List LV) (H : List Blk) (K : List LV → List Blk → Prop) : Prop := opsF E all (all.toList.drop (all.size - k)) ts H K

theorem lasts_sound (hE : EnvOK E) {all : Array Oper} {K : List LV → List Blk → Prop} {Q : Exit → Act → World → Prop} (hK : ∀ ts H a w pl, K ts H → Sim X B W0 ⟨ts, H⟩ a w pl → Q .normal a w) {fuel : Nat} {a0 : Act} {w0 : World} {L0 : Array Bool} (hcl : ClosedL all L0) (hsz : L0.size = all.size) :
    ∀ (k : Nat) (R : Act → World → Prop), k ≤ all.size → lastsB all L0 k = true → (∀ i, i < k → L0.getD (all.size - 1 - i) true = false) → (∀ a w, R a w → ∃ ts H pl, tailW E all k ts H K ∧ Sim X B W0 ⟨ts, H⟩ a w pl) →
      wpAny E.P .any (swapN all k) (fun e a w => e = .normal ∧ R a w) fuel L0 a0 w0 → wpAny E.P .any all Q fuel L0 a0 w0
  | 0, R, _, _, _, hR, h => by
    refine wpAny_Q (fun a w h => ?_) (fun c a w h => by cases h.1) (fun a w h => by cases h.1) fuel _ _ _ h
    obtain ⟨ts, H, pl, h1, h2⟩ := hR a w h.2
    unfold tailW at h1
    rw [Nat.sub_zero, ← Array.length_toList, List.drop_length] at h1
    exact hK _ _ _ _ _ h1 h2
  | k + 1, R, hk, hb, hu, hR, h => by
    have hb2 : lastsB all L0 k = true ∧ lastAt (swapN all k) L0 (all.size - 1 - k) = true := by
      simp only [lastsB, List.all_eq_true, List.mem_range] at hb ⊢
      exact ⟨fun i hi => hb i (by omega), hb k (by omega)⟩
    refine lasts_sound hE hK hcl hsz k (fun a w => ∃ ts H pl, tailW E all k ts H K ∧ Sim X B W0 ⟨ts, H⟩ a w pl) (by omega) hb2.1 (fun i hi => hu i (by omega)) (fun a w h => h) ?_
    have hlt : all.size - 1 - k < all.size := by omega
    refine swap_sound hb2.2 (R := R) (fun a w hr => ?_) fuel _ a0 w0 (hcl.swapN k) (by rw [swapN_size, hsz]) (hu k (by omega)) (fun j hj => hj) h
    obtain ⟨ts, H, pl, h1, h2⟩ := hR a w hr
    have ho : (swapN all k)[all.size - 1 - k]? = some all[all.size - 1 - k] := by rw [swapN_lt k (by omega)]; exact Array.getElem?_eq_getElem hlt
    have hl := hb2.2
    simp only [lastAt, Bool.and_eq_true] at hl
    rw [ho] at hl
    simp only [Bool.and_eq_true, Option.isNone_iff_eq_none] at hl
    have hg := hl.1.1.1
    unfold tailW at h1
    have hd : all.toList.drop (all.size - (k + 1)) = all[all.size - 1 - k] :: all.toList.drop (all.size - k) := by
      rw [show all.size - (k + 1) = all.size - 1 - k by omega, List.drop_eq_getElem_cons (by simpa using hlt)]
      rw [show all.size - 1 - k + 1 = all.size - k by omega]
      simp
    rw [hd, opsF_c] at h1
    unfold opsStepF at h1
    rw [hg] at h1
    unfold wpOp
    rw [ho]
    simp only
    rw [if_pos (by simp [Region.wanted, hg])]
    refine .inl (wp_of_OpRes (opF_sound hE h2 h1) fun x H' a' w' pl' hk hs => ?_)
    rw [putK_eq] at hk
    exact ⟨trivial, _, _, _, hk, hs⟩

/-- Moves alone: they may come before whatever else comes. -/
def isMv (A : Array Oper) (i : Nat) : Bool := match A[i]? with | some o => (match o.op with | .move _ => true | _ => false) && o.guard.isNone | none => false
def mvN (A : Array Oper) (l : List Nat) : List Nat := l.takeWhile (isMv A)
def offL (all : Array Oper) : Array Bool := Array.replicate all.size false
/-- The last ones stand behind all others but the moves that come first. -/
def lastsQ (all : Array Oper) (l : List Nat) (z : Nat) : Bool :=
  lastsB all (takesL (mvN (swapN all z) l) (offL all)) z && takesB all (mvN (swapN all z) l) (offL all) && Region.noSelect all && (mvN (swapN all z) l).all (fun i => Nat.blt (i + z) all.size) &&
    (List.range z).all (fun i => !(takesL (mvN (swapN all z) l) (offL all)).getD (all.size - 1 - i) true)

theorem takeWhile_all {p : Nat → Bool} : ∀ (l : List Nat) {i : Nat}, i ∈ l.takeWhile p → p i = true
  | x :: l, i, h => by
    cases hp : p x with
    | false => simp [List.takeWhile, hp] at h
    | true =>
      simp only [List.takeWhile, hp, List.mem_cons] at h
      rcases h with rfl | h
      · exact hp
      · exact takeWhile_all l h
theorem takesW_app {A : Array Oper} {K : List LV → List Blk → Prop} : ∀ (l r : List Nat) (ts : List LV) (H : List Blk), takesW E A (l ++ r) ts H K = takesW E A l ts H fun ts' H' => takesW E A r ts' H' K
  | [], r, ts, H => rfl
  | i :: l, r, ts, H => by
    show stepX E A i ts H (fun ts' H' => takesW E A (l ++ r) ts' H' K) = stepX E A i ts H (fun ts' H' => takesW E A l ts' H' fun ts' H' => takesW E A r ts' H' K)
    rw [show (fun ts' H' => takesW E A (l ++ r) ts' H' K) = (fun ts' H' => takesW E A l ts' H' fun ts' H' => takesW E A r ts' H' K) from funext fun ts' => funext fun H' => takesW_app l r ts' H']
theorem takesB_app {A : Array Oper} : ∀ (l r : List Nat) (L : Array Bool), takesB A (l ++ r) L = (takesB A l L && takesB A r (takesL l L))
  | [], r, L => by simp [takesB, takesL]
  | i :: l, r, L => by simp only [List.cons_append, takesB, takesL, takesB_app l r, Bool.and_assoc]
theorem takesL_app : ∀ (l r : List Nat) (L : Array Bool), takesL (l ++ r) L = takesL r (takesL l L)
  | [], r, L => rfl
  | i :: l, r, L => takesL_app l r _
theorem takesL_size : ∀ (l : List Nat) (L : Array Bool), (takesL l L).size = L.size
  | [], L => rfl
  | i :: l, L => by rw [takesL, takesL_size l]; simp
theorem takesB_closed {all : Array Oper} : ∀ (l : List Nat) (L : Array Bool), takesB all l L = true → ClosedL all L → ClosedL all (takesL l L)
  | [], L, _, h => h
  | i :: l, L, hb, h => by
    simp only [takesB, Bool.and_eq_true] at hb
    exact takesB_closed l _ hb.2 (h.step (by simpa using hb.1.1.1))
theorem held_of_any {P : Program} {all : Array Oper} {Q : Exit → Act → World → Prop} : ∀ (fuel : Nat) (listed : Array Bool) (a : Act) (w : World), wpAny P .any all Q fuel listed a w → wpAnyH P .any all Q (fun _ => True) fuel listed a w
  | 0, _, _, _, h => h
  | fuel + 1, _, _, _, h => ⟨h.1, fun i hi => wpOp_mono (fun a' w' h' => ⟨trivial, held_of_any fuel _ a' w' h'⟩) (h.2 i hi)⟩
theorem moves_sound {all A : Array Oper} (hsel : Region.noSelect all = true) {K : List LV → List Blk → Prop} {Q : Exit → Act → World → Prop} (hQ : ∀ c a w, ¬ Q (.panic c) a w) {fuel : Nat} :
    ∀ (l : List Nat) (listed : Array Bool) (ts : List LV) (H : List Blk) (a : Act) (pl : Nat → PV), takesB all l listed = true → (∀ i ∈ l, isMv A i = true ∧ A[i]? = all[i]?) → takesW E A l ts H K → Sim X B W0 ⟨ts, H⟩ a w pl →
      (∀ ts' H' a' pl', K ts' H' → Sim X B W0 ⟨ts', H'⟩ a' w pl' → wpAny E.P .any all Q fuel (takesL l listed) a' w) →
      wpAny E.P .any all Q (fuel + l.length) listed a w
  | [], listed, ts, H, a, pl, _, _, h, s, hK => hK ts H a pl h s
  | i :: r, listed, ts, H, a, pl, hb, hm, h, s, hK => by
    simp only [takesB, Bool.and_eq_true] at hb
    obtain ⟨⟨⟨b1, b2⟩, b3⟩, b4⟩ := hb
    have h' : stepX E A i ts H fun ts' H' => takesW E A r ts' H' K := h
    obtain ⟨m1, m2⟩ := hm i (by simp)
    unfold stepX at h'
    unfold isMv at m1
    cases hi : A[i]? with
    | none => rw [hi] at h'; exact h'.elim
    | some o =>
      rw [hi] at h' m1 m2
      simp only [Bool.and_eq_true, Option.isNone_iff_eq_none] at m1
      obtain ⟨m1, hg⟩ := m1
      unfold opsStepF at h'
      simp only [hg] at h'
      split at m1
      · rename_i x e
        unfold opF at h'
        rw [e] at h'
        simp only [opW, e] at h'
        rw [putK_eq] at h'
        refine wpAny_of_held (S := fun _ => True) _ _ _ _ (wpAnyH_take (v := a.eval x) m2.symm hsel b2 b1 (fun c a w hq => (hQ _ _ _ hq).elim) (.inl ⟨by simp [Region.wanted, hg], fun w' _ => by simp [execOp, e]⟩) trivial ?_)
        exact held_of_any _ _ _ _ (moves_sound hsel hQ r _ _ H _ pl b4 (fun j hj => hm j (by simp [hj])) h' (s.putO o (ev_sound s x)) hK)
      · cases m1

theorem pr_last (hE : EnvOK E) {all : Array Oper} {l : List Nat} {sc : Scr} {z : Nat} (hz : z ≤ all.size) (hb : lastsQ all l z = true) (hd : prB E.hf (swapN all z) l sc = true) {Wk : List LV → List Blk → List LV → List Blk → Prop}
    (hW : ∀ ts H ts' H' a w pl, Wk ts H ts' H' → Sim X B W0 ⟨ts, H⟩ a w pl → ∃ pl', Sim X B W0 ⟨ts', H'⟩ a w pl') {K : List LV → List Blk → Prop} {Q : Exit → Act → World → Prop}
    (hK : ∀ ts H a w pl, K ts H → Sim X B W0 ⟨ts, H⟩ a w pl → Q .normal a w) 
    (h : takesW E (swapN all z) l ts H fun ts1 H1 => ∃ tsC HC, scrA E (swapN all z) sc ts1 H1 (fun ts' H' => Wk ts' H' tsC HC) ∧ tailW E all z tsC HC K) (s : Sim X B W0 ⟨ts, H⟩ a w pl) : RgD E.P all Q a w := by
  have s := s.grow (w' := { w with drawn := w.drawn + 1 }) ⟨rfl, rfl, rfl, Nat.le_refl _, fun _ _ => rfl, Nat.le_succ _⟩
  unfold RgD
  refine wpAny_Q (Q' := fun e a w => e = .normal ∧ Q e a w) (fun a w h => h.2) (fun c a w h => by cases h.1) (fun a w h => by cases h.1) _ _ _ _ ?_
  simp only [lastsQ, Bool.and_eq_true, List.all_eq_true, Nat.blt_eq, Bool.not_eq_true', List.mem_range] at hb
  obtain ⟨⟨⟨⟨hb1, hb2⟩, hb3⟩, hb4⟩, hb5⟩ := hb
  have hml : mvN (swapN all z) l ++ l.dropWhile (isMv (swapN all z)) = l := List.takeWhile_append_dropWhile
  generalize hM : mvN (swapN all z) l = M at hb1 hb2 hb4 hb5 hml
  generalize l.dropWhile (isMv (swapN all z)) = R at hml
  have hmv : ∀ i ∈ M, isMv (swapN all z) i = true := fun i hi => by rw [← hM] at hi; exact takeWhile_all _ hi
  simp only [prB, Bool.and_eq_true, Nat.ble_eq] at hd
  obtain ⟨⟨⟨h1, h2⟩, h3⟩, h4⟩ := hd
  rw [swapN_size] at h4 h2 h3
  rw [← hml] at h h2 h3 h4
  rw [takesW_app] at h
  rw [takesB_app, Bool.and_eq_true] at h2
  rw [takesL_app] at h3
  rw [List.length_append] at h4
  obtain ⟨F, hF⟩ : ∃ F, all.size = F + R.length + M.length := ⟨all.size - R.length - M.length, by omega⟩
  rw [show wpAny E.P .any all (fun e a w => e = Exit.normal ∧ Q e a w) all.size = wpAny E.P .any all (fun e a w => e = Exit.normal ∧ Q e a w) (F + R.length + M.length) by rw [← hF]]
  refine moves_sound (fuel := F + R.length) hb3 (fun c a w h => by cases h.1) M _ ts H a pl hb2 (fun i hi => ⟨hmv i hi, swapN_lt z (hb4 i hi)⟩) h s fun ts0 H0 a0 pl0 h s => ?_
  refine lasts_sound hE (Q := fun e a w => e = Exit.normal ∧ Q e a w) (fun ts H a w pl k s => ⟨rfl, hK ts H a w pl k s⟩) (takesB_closed M _ hb2 ClosedL.start) (by rw [takesL_size]; simp) z (fun a w => ∃ ts' H' pl', tailW E all z ts' H' K ∧ Sim X B W0 ⟨ts', H'⟩ a w pl') hz hb1 hb5 (fun a w h => h) ?_
  generalize swapN all z = A at h1 h2 h3 h ⊢
  refine wpAny_of_held (S := fun w' => Below ({ w with drawn := w.drawn + 1 } : World).heap.size { w with drawn := w.drawn + 1 } w') _ _ _ _ ?_
  refine takes_sound hE h1 (fun c a w h => by cases h.1) (fuel := F) R _ ts0 H0 a0 pl0 h2.2 h s fun ts1 H1 a1 pl1 hk s1 => ?_
  obtain ⟨tsC, HC, k1, k2⟩ := hk
  refine (scr_sound hE (w0 := { w with drawn := w.drawn + 1 }) (K := fun ts' H' => Wk ts' H' tsC HC) (fun ts' H' a' w' pl' hw s' => ?_) sc F _ [] [] ts1 H1 a1 _ pl1 (by omega) h3 k1 s1 (Below.refl _ _) (fun d hd => by cases hd)).2 rfl
  obtain ⟨plC, sC⟩ := hW _ _ _ _ _ _ _ hw s'
  exact ⟨rfl, _, _, _, k2, sC⟩
end
end Go.Lg

