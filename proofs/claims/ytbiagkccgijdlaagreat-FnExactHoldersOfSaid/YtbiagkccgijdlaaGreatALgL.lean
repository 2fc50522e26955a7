/- Code, told over readings; a function's contract out of its code. -/
import Derived.Test.YtbiagkccgijdlaaGreatALgZQ
import Derived.Scope
namespace Go.Lg
variable [GI]
set_option linter.unusedSectionVars false
set_option linter.unusedVariables false
set_option linter.unusedSimpArgs false
open Go.RowKit

/-! ### Forgetting -/

def wk : List LV → List LV → Prop
  | [], [] => True
  | _ :: xs, .undef :: ys => wk xs ys
  | x :: xs, y :: ys => x = y ∧ wk xs ys
  | _, _ => False

/-- The first n blocks stay. -/
def wkH : Nat → List Blk → List Blk → Prop
  | 0, _, [] => True
  | _ + 1, _, [] => False
  | n, x :: xs, y :: ys => x = y ∧ wkH (n - 1) xs ys
  | _, [], _ :: _ => False

/-- (ts', H') says no more than (ts, H). -/
def weak (n0 : Nat) (ts : List LV) (H : List Blk) (ts' : List LV) (H' : List Blk) : Prop :=
  wk ts ts' ∧ wkH n0 H H' ∧ scs (below H'.length) ts' = true ∧ H'.all (scB (below H'.length)) = true

theorem wk_len : ∀ (xs ys : List LV), wk xs ys → ys.length = xs.length
  | [], [], _ => rfl
  | [], _ :: _, h => by simp [wk] at h
  | _ :: _, [], h => by simp [wk] at h
  | x :: xs, y :: ys, h => by
    cases y <;> simp only [wk] at h <;> first
      | simp [wk_len xs ys h]
      | simp [wk_len xs ys h.2]

theorem wk_get : ∀ (xs ys : List LV) (i : Nat) (y : LV), wk xs ys → ys[i]? = some y → y = .undef ∨ xs[i]? = some y
  | [], [], i, y, _, h => by simp at h
  | [], _ :: _, _, _, h, _ => by simp [wk] at h
  | _ :: _, [], _, _, h, _ => by simp [wk] at h
  | x :: xs, z :: ys, 0, y, h, k => by
    simp at k; subst k
    cases z <;> simp only [wk] at h <;> first
      | exact .inl rfl
      | (right; simp [h.1])
  | x :: xs, z :: ys, i + 1, y, h, k => by
    have h' : wk xs ys := by cases z <;> simp only [wk] at h <;> first | exact h | exact h.2
    simpa using wk_get xs ys i y h' (by simpa using k)

theorem wkH_get : ∀ (n : Nat) (xs ys : List Blk) (i : Nat) (y : Blk), wkH n xs ys → ys[i]? = some y → xs[i]? = some y
  | _, _, [], i, y, _, h => by simp at h
  | n, [], _ :: _, _, _, h, _ => by simp [wkH] at h
  | n, x :: xs, z :: ys, 0, y, h, k => by simp only [wkH] at h; simp at k ⊢; rw [h.1, k]
  | n, x :: xs, z :: ys, i + 1, y, h, k => by simp only [wkH] at h; simpa using wkH_get _ xs ys i y h.2 (by simpa using k)

theorem wkH_len : ∀ (n : Nat) (xs ys : List Blk), wkH n xs ys → ys.length ≤ xs.length ∧ n ≤ ys.length
  | 0, _, [], _ => by simp
  | n + 1, _, [], h => by simp [wkH] at h
  | n, [], _ :: _, h => by simp [wkH] at h
  | n, x :: xs, z :: ys, h => by simp only [wkH] at h; have := wkH_len _ xs ys h.2; simp; omega

theorem wkH_lt (n : Nat) (xs ys : List Blk) (i : Nat) (h : wkH n xs ys) (hi : i < ys.length) : ys[i]? = xs[i]? := by
  rw [wkH_get n xs ys i _ h (List.getElem?_eq_getElem hi), List.getElem?_eq_getElem hi]

section
variable {X : Nat → Prop} {H H' : List Blk} {pl : Nat → PV} {w : World}

theorem rens_shrink {n0 : Nat} (h : wkH n0 H H') : Rens (fun i => i) (below H'.length) (ctx X H pl w) (ctx X H' pl w) := by
  refine ⟨rfl, fun b ho => ?_, fun i k v hi hs => ?_, fun i k p v hi hs => ?_⟩
  · rcases ho with ho | ⟨id, blk, h1, h2⟩
    · exact .inl ho
    · exact .inr ⟨id, blk, wkH_get _ _ _ _ _ h h1, h2⟩
  · have hi : i < H'.length := by simpa [below] using hi
    exact hsOK_move (m := fun i => i) (μ := fun i => i) hs ⟨H'[i], by rw [renB_id]; exact List.getElem?_eq_getElem hi, by rw [renB_id, ← wkH_lt _ _ _ _ h hi]; exact List.getElem?_eq_getElem hi⟩ rfl
  · have hi : i < H'.length := by simpa [below] using hi
    exact hpOK_move (m := fun i => i) (μ := fun i => i) hs ⟨H'[i], by rw [renB_id]; exact List.getElem?_eq_getElem hi, by rw [renB_id, ← wkH_lt _ _ _ _ h hi]; exact List.getElem?_eq_getElem hi⟩ rfl

theorem Sim.weak {B : Nat} {W0 : Orig} {ts ts' : List LV} {a : Act} {n0 : Nat} (s : Sim X B W0 ⟨ts, H⟩ a w pl) (h : weak n0 ts H ts' H') (hn : n0 = W0.H.length) : Sim X B W0 ⟨ts', H'⟩ a w pl := by
  obtain ⟨h1, h2, h3, h4⟩ := h
  have hr := rens_shrink (X := X) (pl := pl) (w := w) h2
  refine ⟨⟨s.good.below, s.good.base, fun id blk hb => ?_, fun i j bi bj b hi li hj lj => s.good.inj i j bi bj b (wkH_get _ _ _ _ _ h2 hi) li (wkH_get _ _ _ _ _ h2 hj) lj, fun i bi hi => s.good.nd i bi (wkH_get _ _ _ _ _ h2 hi), s.good.xlt, s.good.keepX, fun id blk b hb => s.good.apart id blk b (wkH_get _ _ _ _ _ h2 hb)⟩,
    s.defers, by rw [s.size]; exact (wk_len _ _ h1).symm, fun t x hx => ?_, s.le.size, fun b hb ho => s.le.keep b hb ho, fun b hb ho => s.le.own b hb (hr.o b ho), fun i n v h => ?_, fun i n p v h => ?_⟩
  · have hb0 := wkH_get _ _ _ _ _ h2 hb
    have := BlkOK_ren hr (List.all_eq_true.1 h4 blk (List.mem_of_getElem? hb)) (s.good.ok id blk hb0)
    rwa [renB_id] at this
  · rcases wk_get _ _ _ _ h1 hx with rfl | hx'
    · trivial
    · have := RT_ren hr (scs_get _ _ _ h3 hx) (s.tmps t x hx')
      rwa [renL_id] at this
  · have hi : i < H'.length := Nat.lt_of_lt_of_le h.1 (by rw [← hn]; exact (wkH_len _ _ _ h2).2)
    exact hr.hs i n v (by simpa [below] using hi) (s.le.hs _ _ _ h)
  · have hi : i < H'.length := Nat.lt_of_lt_of_le h.1 (by rw [← hn]; exact (wkH_len _ _ _ h2).2)
    exact hr.hp i n p v (by simpa [below] using hi) (s.le.hp _ _ _ _ h)

end

/-! ### Blocks under new numbers -/

/-- What a new number stands for: an elder block, or an empty row that is nil. -/
inductive Kp where
  | old (i : Nat)
  | nil (e k : Nat)
  | gone

def kpIdx : List Kp → Nat → Option Nat
  | [], _ => none
  | .old j :: r, i => match Nat.beq j i with
    | true => some 0
    | false => match kpIdx r i with | some n => some (n + 1) | none => none
  | .nil _ _ :: r, i => match kpIdx r i with | some n => some (n + 1) | none => none
  | .gone :: r, i => match kpIdx r i with | some n => some (n + 1) | none => none
def kpM (σ : List Kp) (i : Nat) : Nat := match kpIdx σ i with | some j => j | none => 0
def kpS (σ : List Kp) (i : Nat) : Bool := match kpIdx σ i with | some _ => true | none => false
def nilAt (σ : List Kp) (j : Nat) : Bool := match σ[j]? with | some (.nil _ _) => true | _ => false

theorem kpIdx_get : ∀ {σ : List Kp} {i j : Nat}, kpIdx σ i = some j → σ[j]? = some (.old i)
  | [], i, j, h => by simp [kpIdx] at h
  | .old j' :: r, i, j, h => by
    simp only [kpIdx] at h
    split at h
    · rename_i e; cases h; have := Nat.eq_of_beq_eq_true e; simp [this]
    · split at h
      · rename_i n hn; cases h; simpa using kpIdx_get hn
      · cases h
  | .nil _ _ :: r, i, j, h => by
    simp only [kpIdx] at h
    split at h
    · rename_i n hn; cases h; simpa using kpIdx_get hn
    · cases h
  | .gone :: r, i, j, h => by
    simp only [kpIdx] at h
    split at h
    · rename_i n hn; cases h; simpa using kpIdx_get hn
    · cases h

def olds : List Kp → List Nat
  | [] => []
  | .old i :: r => i :: olds r
  | .nil _ _ :: r => olds r
  | .gone :: r => olds r

theorem olds_get : ∀ {σ : List Kp} {i j : Nat}, σ[j]? = some (.old i) → i ∈ olds σ
  | .old _ :: r, i, 0, h => by simp at h; subst h; simp [olds]
  | .old _ :: r, i, j + 1, h => by simp only [olds]; exact List.mem_cons_of_mem _ (olds_get (by simpa using h))
  | .nil _ _ :: r, i, 0, h => by simp at h
  | .nil _ _ :: r, i, j + 1, h => by simp only [olds]; exact olds_get (by simpa using h)
  | .gone :: r, i, 0, h => by simp at h
  | .gone :: r, i, j + 1, h => by simp only [olds]; exact olds_get (by simpa using h)
theorem olds_inj : ∀ {σ : List Kp} {i j j' : Nat}, (olds σ).Nodup → σ[j]? = some (.old i) → σ[j']? = some (.old i) → j = j'
  | .old _ :: r, i, 0, 0, _, _, _ => rfl
  | .old x :: r, i, 0, j' + 1, hn, h, h' => by
    simp at h h'; subst h
    exact absurd (olds_get h') (List.nodup_cons.1 hn).1
  | .old x :: r, i, j + 1, 0, hn, h, h' => by
    simp at h h'; subst h'
    exact absurd (olds_get h) (List.nodup_cons.1 hn).1
  | .old x :: r, i, j + 1, j' + 1, hn, h, h' => by
    simp only [olds] at hn
    exact congrArg (· + 1) (olds_inj (List.nodup_cons.1 hn).2 (by simpa using h) (by simpa using h'))
  | .nil _ _ :: r, i, 0, _, _, h, _ => by simp at h
  | .nil _ _ :: r, i, _, 0, _, _, h => by simp at h
  | .nil _ _ :: r, i, j + 1, j' + 1, hn, h, h' => by
    simp only [olds] at hn
    exact congrArg (· + 1) (olds_inj hn (by simpa using h) (by simpa using h'))
  | .gone :: r, i, 0, _, _, h, _ => by simp at h
  | .gone :: r, i, _, 0, _, _, h => by simp at h
  | .gone :: r, i, j + 1, j' + 1, hn, h, h' => by
    simp only [olds] at hn
    exact congrArg (· + 1) (olds_inj hn (by simpa using h) (by simpa using h'))

def wkR (σ : List Kp) : List LV → List LV → Prop
  | [], [] => True
  | x :: xs, y :: ys => match y with
    | .undef => wkR σ xs ys
    | .hs j n => match x with
      | .nil => n = 0 ∧ nilAt σ j = true ∧ wkR σ xs ys
      | .hs i n' => kpS σ i = true ∧ LV.hs (kpM σ i) n' = .hs j n ∧ wkR σ xs ys
      | _ => False
    | y => sc (kpS σ) x = true ∧ renL (kpM σ) x = y ∧ wkR σ xs ys
  | _, _ => False

def wkHR (σ0 : List Kp) (H : List Blk) : List Kp → List Blk → Prop
  | [], [] => True
  | .old i :: r, y :: ys => match H[i]? with
    | some b => scB (kpS σ0) b = true ∧ renB (kpM σ0) b = y ∧ wkHR σ0 H r ys
    | none => False
  | .nil e k :: r, y :: ys => match y with
    | .row t _ _ _ => Nat.blt 0 k = true ∧ Blk.row t e k [] = y ∧ wkHR σ0 H r ys
    | _ => False
  | .gone :: r, y :: ys => match y with
    | .dead => wkHR σ0 H r ys
    | _ => False
  | _, _ => False

/-- What was opened is closed, what is to be a row that may own becomes one. -/
def closeAll : List Kp → List Blk → List Blk → (List Blk → Prop) → Prop
  | .old i :: r, y :: ys, H, K => match H[i]? with
    | some (.opn e k g j m) => (match y with
      | .row _ _ _ _ => (match H[j]? with
        | some (.row false e' k' zs) => m = zs.length ∧ setHK H j .dead fun H1 => setHK H1 i (.row true e k (g (.own e' k' zs))) fun H2 => closeAll r ys H2 K
        | _ => False)
      | _ => closeAll r ys H K)
    | some (.row false e k xs) => (match y with
      | .row true _ _ _ => setHK H i (.row true e k xs) fun H1 => closeAll r ys H1 K
      | _ => closeAll r ys H K)
    | _ => closeAll r ys H K
  | .nil _ _ :: r, _ :: ys, H, K => closeAll r ys H K
  | .gone :: r, _ :: ys, H, K => closeAll r ys H K
  | _, _, H, K => K H

theorem closeAll_sound {X : Nat → Prop} {B : Nat} {W0 : Orig} {w : World} {ts : List LV} {a : Act} : ∀ (σ : List Kp) (ys : List Blk) (H : List Blk) (K : List Blk → Prop) (pl : Nat → PV), closeAll σ ys H K → Sim X B W0 ⟨ts, H⟩ a w pl →
    ∃ H' pl', K H' ∧ Sim X B W0 ⟨ts, H'⟩ a w pl'
  | [], ys, H, K, pl, h, s => by
    cases ys <;> exact ⟨H, pl, h, s⟩
  | .old i :: r, [], H, K, pl, h, s => ⟨H, pl, h, s⟩
  | .nil _ _ :: r, [], H, K, pl, h, s => ⟨H, pl, h, s⟩
  | .nil _ _ :: r, y :: ys, H, K, pl, h, s => closeAll_sound r ys H K pl h s
  | .gone :: r, [], H, K, pl, h, s => ⟨H, pl, h, s⟩
  | .gone :: r, y :: ys, H, K, pl, h, s => closeAll_sound r ys H K pl h s
  | .old i :: r, y :: ys, H, K, pl, h, s => by
    simp only [closeAll] at h
    split at h
    · rename_i e k g j m hi
      split at h
      · split at h
        · rename_i e' k' zs hj
          obtain ⟨hm, h⟩ := h
          rw [setHK_eq, setHK_eq] at h
          obtain ⟨pl1, s1, _⟩ := sim_close s hi hj hm
          exact closeAll_sound r ys _ K pl1 h s1
        · exact h.elim
      · exact closeAll_sound r ys H K pl h s
    · rename_i e k xs hi
      split at h
      · rw [setHK_eq] at h
        obtain ⟨pl1, s1⟩ := sim_up s hi
        exact closeAll_sound r ys _ K pl1 h s1
      · exact closeAll_sound r ys H K pl h s
    · exact closeAll_sound r ys H K pl h s

def prefB : Nat → Nat → List Kp → Bool
  | 0, _, _ => true
  | n + 1, i, .old j :: r => match Nat.beq j i with | true => prefB n (i + 1) r | false => false
  | n + 1, i, .gone :: r => prefB n (i + 1) r
  | _, _, _ => false

/-- (ts', H') says no more than (ts, H), the blocks under the numbers that σ says. -/
def weakR (n0 : Nat) (σ : List Kp) (ts : List LV) (H : List Blk) (ts' : List LV) (H' : List Blk) : Prop :=
  wkR σ ts ts' ∧ (closeAll σ H' H fun H1 => wkHR σ H1 σ H') ∧ (nodupN (olds σ) && prefB n0 0 σ) = true

theorem wkR_len {σ : List Kp} : ∀ (xs ys : List LV), wkR σ xs ys → ys.length = xs.length
  | [], [], _ => rfl
  | [], _ :: _, h => by simp [wkR] at h
  | _ :: _, [], h => by simp [wkR] at h
  | x :: xs, y :: ys, h => by
    cases y <;> simp only [wkR] at h
    case undef => simp [wkR_len xs ys h]
    case hs j n => cases x <;> simp only at h <;> first | exact h.elim | simp [wkR_len xs ys h.2.2]
    all_goals simp [wkR_len xs ys h.2.2]

theorem wkR_get {σ : List Kp} : ∀ (xs ys : List LV) (i : Nat) (y : LV), wkR σ xs ys → ys[i]? = some y →
    y = .undef ∨ (∃ j, xs[i]? = some .nil ∧ y = .hs j 0 ∧ nilAt σ j = true) ∨ ∃ x, xs[i]? = some x ∧ sc (kpS σ) x = true ∧ renL (kpM σ) x = y
  | [], [], i, y, _, h => by simp at h
  | [], _ :: _, _, _, h, _ => by simp [wkR] at h
  | _ :: _, [], _, _, h, _ => by simp [wkR] at h
  | x :: xs, z :: ys, 0, y, h, k => by
    simp at k; subst k
    cases z <;> simp only [wkR] at h
    case undef => exact .inl rfl
    case hs j n =>
      cases x <;> simp only at h <;> try exact h.elim
      · obtain ⟨rfl, h2, _⟩ := h
        exact .inr (.inl ⟨j, by simp, rfl, h2⟩)
      · exact .inr (.inr ⟨_, rfl, by simp only [sc]; exact h.1, by simp only [renL]; exact h.2.1⟩)
    all_goals exact .inr (.inr ⟨x, by simp, h.1, h.2.1⟩)
  | x :: xs, z :: ys, i + 1, y, h, k => by
    have h' : wkR σ xs ys := by
      cases z <;> simp only [wkR] at h
      case undef => exact h
      case hs j n => cases x <;> simp only at h <;> first | exact h.elim | exact h.2.2
      all_goals exact h.2.2
    simpa using wkR_get xs ys i y h' (by simpa using k)

theorem wkHR_get {σ0 : List Kp} {H : List Blk} : ∀ (σ : List Kp) (ys : List Blk) (j : Nat) (y : Blk), wkHR σ0 H σ ys → ys[j]? = some y →
    (∃ i b, σ[j]? = some (.old i) ∧ H[i]? = some b ∧ scB (kpS σ0) b = true ∧ renB (kpM σ0) b = y) ∨ (∃ t e k, σ[j]? = some (.nil e k) ∧ 0 < k ∧ y = .row t e k []) ∨ (σ[j]? = some .gone ∧ y = .dead)
  | [], [], j, y, _, h => by simp at h
  | [], _ :: _, _, _, h, _ => by simp [wkHR] at h
  | .old _ :: _, [], _, _, h, _ => by simp [wkHR] at h
  | .nil _ _ :: _, [], _, _, h, _ => by simp [wkHR] at h
  | .gone :: _, [], _, _, h, _ => by simp [wkHR] at h
  | .gone :: r, z :: ys, j, y, h, k => by
    simp only [wkHR] at h
    split at h
    · cases j with
      | zero => simp at k; subst k; exact .inr (.inr ⟨by simp, rfl⟩)
      | succ j => simpa using wkHR_get r ys j y h (by simpa using k)
    · exact h.elim
  | .old i :: r, z :: ys, j, y, h, k => by
    simp only [wkHR] at h
    split at h
    · rename_i b hb
      cases j with
      | zero => simp at k; subst k; exact .inl ⟨i, b, by simp, hb, h.1, h.2.1⟩
      | succ j => simpa using wkHR_get r ys j y h.2.2 (by simpa using k)
    · exact h.elim
  | .nil e kk :: r, z :: ys, j, y, h, k => by
    simp only [wkHR] at h
    split at h
    · rename_i t _ _ _
      cases j with
      | zero => simp at k; subst k; exact .inr (.inl ⟨t, e, kk, by simp, by simpa using h.1, h.2.1.symm⟩)
      | succ j => simpa using wkHR_get r ys j y h.2.2 (by simpa using k)
    · exact h.elim
theorem wkHR_len {σ0 : List Kp} {H : List Blk} : ∀ (σ : List Kp) (ys : List Blk), wkHR σ0 H σ ys → ys.length = σ.length
  | [], [], _ => rfl
  | [], _ :: _, h => by simp [wkHR] at h
  | .old _ :: _, [], h => by simp [wkHR] at h
  | .nil _ _ :: _, [], h => by simp [wkHR] at h
  | .gone :: _, [], h => by simp [wkHR] at h
  | .gone :: r, z :: ys, h => by
    simp only [wkHR] at h
    split at h
    · simp [wkHR_len r ys h]
    · exact h.elim
  | .old i :: r, z :: ys, h => by
    simp only [wkHR] at h
    split at h
    · simp [wkHR_len r ys h.2.2]
    · exact h.elim
  | .nil e k :: r, z :: ys, h => by
    simp only [wkHR] at h
    split at h
    · simp [wkHR_len r ys h.2.2]
    · exact h.elim

theorem prefB_get : ∀ {n i : Nat} {σ : List Kp} {j : Nat}, prefB n i σ = true → j < n → σ[j]? = some (.old (i + j)) ∨ σ[j]? = some .gone
  | 0, _, _, j, _, h => by omega
  | n + 1, i, [], j, h, _ => by simp [prefB] at h
  | n + 1, i, .nil _ _ :: r, j, h, _ => by simp [prefB] at h
  | n + 1, i, .gone :: r, j, h, hj => by
    simp only [prefB] at h
    cases j with
    | zero => simp
    | succ j =>
      have := prefB_get (j := j) h (by omega)
      rw [List.getElem?_cons_succ, show i + (j + 1) = i + 1 + j by omega]
      exact this
  | n + 1, i, .old x :: r, j, h, hj => by
    simp only [prefB] at h
    split at h
    · rename_i e
      have := Nat.eq_of_beq_eq_true e
      cases j with
      | zero => simp [this]
      | succ j =>
        have := prefB_get (j := j) h (by omega)
        rw [List.getElem?_cons_succ, show i + (j + 1) = i + 1 + j by omega]
        exact this
    · cases h

def kpPl (σ : List Kp) (pl : Nat → PV) (j : Nat) : PV := match σ[j]? with | some (.old i) => pl i | _ => ⟨.slice none 0 0, []⟩

theorem hsOK_dead {H H' : List Blk} {pl pl' : Nat → PV} {i n : Nat} {v : Value} (h : hsOK H pl i n v) (hd : H'[i]? = some .dead) : hsOK H' pl' i n v :=
  ⟨lt_of_get hd, h.2.1, fun b xs hb hr _ => by rw [hd] at hb; cases hb; exact hr.elim⟩
theorem hpOK_dead {H H' : List Blk} {pl pl' : Nat → PV} {i n : Nat} {p : List Nat} {v : Value} (h : hpOK H pl i n p v) (hd : H'[i]? = some .dead) : hpOK H' pl' i n p v := by
  refine ⟨lt_of_get hd, h.2.1, ?_, ?_, ?_⟩
  · intro c o hc _; rw [hd] at hc; cases hc
  · intro b xs o hb hr _ _; rw [hd] at hb; cases hb; exact hr.elim
  · intro blk hb hw; rw [hd] at hb; cases hb; exact hw.elim
section
variable {X : Nat → Prop} {B : Nat} {W0 : Orig} {H H' : List Blk} {pl : Nat → PV} {w : World} {ts ts' : List LV} {a : Act} {n0 : Nat} {σ : List Kp}

theorem kp_cases (h : wkHR σ H σ H') {j : Nat} {y : Blk} {c : Nat} (hy : H'[j]? = some y) (lv : c ∈ y.feet (kpPl σ pl j)) :
    ∃ i b, σ[j]? = some (.old i) ∧ H[i]? = some b ∧ renB (kpM σ) b = y ∧ kpPl σ pl j = pl i := by
  rcases wkHR_get σ H' j y h hy with ⟨i, b, h1, h2, _, h3⟩ | ⟨t, e, k, h1, _, rfl⟩ | ⟨h1, rfl⟩
  · exact ⟨i, b, h1, h2, h3, by simp [kpPl, h1]⟩
  · cases t <;> simp [kpPl, h1, Blk.feet, feet, hasBk] at lv
  · simp [kpPl, h1, Blk.feet, feet, hasBk] at lv

theorem rens_kp (h : wkHR σ H σ H') : Rens (kpM σ) (kpS σ) (ctx X H pl w) (ctx X H' (kpPl σ pl) w) := by
  have get : ∀ i, kpS σ i = true → ∃ j, kpIdx σ i = some j ∧ kpM σ i = j := fun i hi => by
    unfold kpS at hi
    cases e : kpIdx σ i with
    | none => rw [e] at hi; cases hi
    | some j => exact ⟨j, rfl, by simp [kpM, e]⟩
  have blk : ∀ i j, kpIdx σ i = some j → i < H.length → ∃ b, H'[j]? = some (renB (kpM σ) b) ∧ H[i]? = some b ∧ kpPl σ pl j = pl i := fun i j hij hi => by
    have h1 := kpIdx_get hij
    have hj : j < H'.length := by rw [wkHR_len _ _ h]; exact lt_of_get h1
    rcases wkHR_get σ H' j _ h (List.getElem?_eq_getElem hj) with ⟨i', b, h2, h3, _, h4⟩ | ⟨_, e, k, h2, _, _⟩ | ⟨h2, _⟩
    · rw [h1] at h2
      cases h2
      exact ⟨b, by rw [h4]; exact List.getElem?_eq_getElem hj, h3, by simp [kpPl, h1]⟩
    · rw [h1] at h2; cases h2
    · rw [h1] at h2; cases h2
  refine ⟨rfl, fun b ho => ?_, fun i k v hi hs => ?_, fun i k p v hi hs => ?_⟩
  · rcases ho with ho | ⟨id, y, h1, h2, h3⟩
    · exact .inl ho
    · obtain ⟨i, b', k1, k2, rfl, k4⟩ := kp_cases h h1 h3
      rw [k4, renB_feet] at h3
      exact .inr ⟨i, b', k2, renB_live.1 h2, h3⟩
  · obtain ⟨j, h1, h2⟩ := get i hi
    obtain ⟨b, k1, k2, k3⟩ := blk i j h1 hs.1
    rw [h2]
    exact hsOK_move (μ := fun i => i) hs ⟨b, k1, by rw [renB_id]; exact k2⟩ k3
  · obtain ⟨j, h1, h2⟩ := get i hi
    obtain ⟨b, k1, k2, k3⟩ := blk i j h1 hs.1
    rw [h2]
    exact hpOK_move (μ := fun i => i) hs ⟨b, k1, by rw [renB_id]; exact k2⟩ k3

theorem Sim.weakR0 (s : Sim X B W0 ⟨ts, H⟩ a w pl) (h1 : wkR σ ts ts') (h2 : wkHR σ H σ H') (h3 : (nodupN (olds σ) && prefB n0 0 σ) = true) (hn : n0 = W0.H.length) : Sim X B W0 ⟨ts', H'⟩ a w (kpPl σ pl) := by
  simp only [Bool.and_eq_true] at h3
  have hnd := nodupN_spec h3.1
  have hr := rens_kp (X := X) (pl := pl) (w := w) h2
  have front : ∀ i, i < n0 → σ[i]? = some (.old i) ∨ σ[i]? = some .gone := fun i hi => by simpa using prefB_get h3.2 hi
  have blk : ∀ i, i < n0 → i < H.length → (∃ b, H'[i]? = some (renB (kpM σ) b) ∧ H[i]? = some b ∧ kpPl σ pl i = pl i) ∨ H'[i]? = some .dead := fun i hi hl => by
    have hf := front i hi
    have hj : i < H'.length := by rw [wkHR_len _ _ h2]; rcases hf with hf | hf <;> exact lt_of_get hf
    rcases wkHR_get σ H' i _ h2 (List.getElem?_eq_getElem hj) with ⟨i', b, k2, k3, _, k4⟩ | ⟨_, e, k, k2, _, _⟩ | ⟨k2, k3⟩
    · rcases hf with hf | hf
      · have k2' := k2
        rw [hf] at k2'
        cases k2'
        exact .inl ⟨b, by rw [k4]; exact List.getElem?_eq_getElem hj, k3, by simp [kpPl, hf]⟩
      · rw [hf] at k2; cases k2
    · rcases hf with hf | hf <;> (rw [hf] at k2; cases k2)
    · exact .inr (by rw [← k3]; exact List.getElem?_eq_getElem hj)
  refine ⟨⟨s.good.below, s.good.base, fun j y hy => ?_, fun i j bi bj b hi li hj lj ai aj => ?_, fun i bi hi li => ?_, s.good.xlt, s.good.keepX, fun j y b hy lv hv => ?_⟩,
    s.defers, by rw [s.size]; exact (wkR_len _ _ h1).symm, fun t x hx => ?_, s.le.size, fun b hb ho => s.le.keep b hb ho, fun b hb ho => s.le.own b hb (hr.o b ho), fun i n v h => ?_, fun i n p v h => ?_⟩
  · rcases wkHR_get σ H' j y h2 hy with ⟨i, b, k1, k2, k3, rfl⟩ | ⟨t, e, k, k1, k2, rfl⟩ | ⟨_, rfl⟩
    rotate_left 2
    · trivial
    · have e : kpPl σ pl j = pl i := by simp [kpPl, k1]
      rw [e]
      exact BlkOK_ren hr k3 (s.good.ok i b k2)
    · have e' : kpPl σ pl j = ⟨.slice none 0 0, []⟩ := by simp [kpPl, k1]
      rw [e']
      exact ⟨[], World.ownsRow_nil w B e k, by cases t <;> simp [RCs, RRcs], by simp, k2⟩
  · obtain ⟨i', b1, k1, k2, rfl, k4⟩ := kp_cases h2 hi ai
    obtain ⟨j', b', m1, m2, rfl, m4⟩ := kp_cases h2 hj aj
    rw [k4, renB_feet] at ai
    rw [m4, renB_feet] at aj
    have := s.good.inj i' j' b1 b' b k2 (renB_live.1 li) m2 (renB_live.1 lj) ai aj
    subst this
    exact olds_inj hnd k1 m1
  · rcases wkHR_get σ H' i bi h2 hi with ⟨i', b, k1, k2, _, rfl⟩ | ⟨t, e, k, k1, _, rfl⟩ | ⟨_, rfl⟩
    rotate_left 2
    · exact li.elim
    · have e : kpPl σ pl i = pl i' := by simp [kpPl, k1]
      rw [e, renB_feet]
      exact s.good.nd i' b k2 (renB_live.1 li)
    · have e' : kpPl σ pl i = ⟨.slice none 0 0, []⟩ := by simp [kpPl, k1]
      rw [e']
      cases t <;> simp [Blk.feet, feet, hasBk]
  · obtain ⟨i', b1, k1, k2, rfl, k4⟩ := kp_cases h2 hy hv
    rw [k4, renB_feet] at hv
    exact s.good.apart i' b1 b k2 (renB_live.1 lv) hv
  · rcases wkR_get _ _ _ _ h1 hx with rfl | ⟨j, hx', rfl, hj⟩ | ⟨x', hx', hs, rfl⟩
    · trivial
    · have hv := s.tmps t .nil hx'
      simp only [RT, RT1, RC] at hv ⊢
      have hj' : ∃ e k, σ[j]? = some (.nil e k) := by
        unfold nilAt at hj
        split at hj
        · rename_i e k hh; exact ⟨e, k, hh⟩
        · cases hj
      obtain ⟨e, k, hjk⟩ := hj'
      refine ⟨_, hv, by rw [wkHR_len _ _ h2]; exact lt_of_get hjk, ⟨none, 0, 0, rfl⟩, fun e' xs hx0 hr0 hn0 => by simp [kpPl, hjk]⟩
    · exact RT_ren hr hs (s.tmps t x' hx')
  · have hi : i < n0 := by rw [hn]; exact h.1
    have hs := s.le.hs _ _ _ h
    rcases blk i hi hs.1 with ⟨b, k1, k2, k3⟩ | hd
    rotate_left
    · exact hsOK_dead hs hd
    exact hsOK_move (μ := fun i => i) hs ⟨b, k1, by rw [renB_id]; exact k2⟩ k3
  · have hi : i < n0 := by rw [hn]; exact h.1
    have hs := s.le.hp _ _ _ _ h
    rcases blk i hi hs.1 with ⟨b, k1, k2, k3⟩ | hd
    rotate_left
    · exact hpOK_dead hs hd
    exact hpOK_move (μ := fun i => i) hs ⟨b, k1, by rw [renB_id]; exact k2⟩ k3

end

theorem Sim.weakR {X : Nat → Prop} {B : Nat} {W0 : Orig} {H H' : List Blk} {pl : Nat → PV} {w : World} {ts ts' : List LV} {a : Act} {n0 : Nat} {σ : List Kp} (s : Sim X B W0 ⟨ts, H⟩ a w pl) (h : weakR n0 σ ts H ts' H') (hn : n0 = W0.H.length) :
    ∃ pl', Sim X B W0 ⟨ts', H'⟩ a w pl' := by
  obtain ⟨h1, h2, h3⟩ := h
  obtain ⟨H1, pl1, h4, s1⟩ := closeAll_sound σ H' H _ pl h2 s
  exact ⟨_, s1.weakR0 h1 h4 h3 hn⟩

/-! ### What is nil stands for an empty row -/

/-- What is nil in a row of a tree stands for an empty row of its own. -/
theorem good_nilEl {X : Nat → Prop} {B : Nat} {W0 : Orig} {H : List Blk} {pl : Nat → PV} {w : World} (g : Good X B W0 H pl w) {i e k : Nat} {xs ys : List LV} {p : List Nat} {e' k' : Nat} (hi : H[i]? = some (.row true e k xs))
    (hp : getP (.st xs) p = some .nil) (hy : setP (.st xs) p (.own e' k' []) = .st ys) (hk : 0 < k') :
    Good X B W0 (H.set i (.row true e k ys)) pl w ∧ (ctx X H pl w).Le (ctx X (H.set i (.row true e k ys)) pl w) := by
  obtain ⟨es, r1, r2, r3, r4⟩ := g.ok i _ hi
  have r2 : RRcs w (owned X H pl) B xs es (pl i).fp := r2
  have hplace : RRc w (owned X H pl) B (.st xs) es (pl i).fp := by simp only [RRc]; exact r2
  obtain ⟨pre, d, post, b1, bx, b2, hes, hfp, m1, m2, m3⟩ := RRc_place p _ _ _ _ hplace hp
  unfold RRc at m2
  have hd : d = [.slice none 0 0] := by simpa only [RC] using m2.1
  have hbx : bx = [] := m2.2
  subst hd; subst hbx
  have own : RRc w (owned X H pl) B (.own e' k' []) [.slice none 0 0] [] := by
    simp only [RRc]
    exact ⟨.slice none 0 0, [], rfl, World.ownsRow_nil w B e' k', by simp [RCs], by simp, hk, by simp [hasBk]⟩
  have k3 := m3 _ _ _ own
  rw [hy] at k3
  simp only [RRc] at k3
  rw [← hes, ← hfp] at k3
  have hlen : ys.length = xs.length := by
    cases p with
    | nil => simp [getP] at hp
    | cons f q =>
      cases hz : xs[f]? with
      | none => simp only [setP, hz, LV.st.injEq] at hy; rw [← hy]
      | some z => simp only [setP, hz, LV.st.injEq] at hy; rw [← hy]; simp
  have sameG : same (.st xs) (.st ys) = true := by rw [← hy]; exact setP_same p _ _ (.own e' k' []) hp rfl
  refine g.one (H' := H.set i (.row true e k ys)) (pl' := pl) (id := i) (w' := w) (nb := .row true e k ys)
    (by simp) (by rw [List.getElem?_set_self (by simpa using lt_of_get hi)])
    (fun i' b hb hne lv => by
      rcases set_get hb with ⟨rfl, _⟩ | ⟨_, h⟩
      · exact absurd rfl hne
      · exact h)
    (fun i' hne => rfl)
    (.inr ⟨_, hi, ⟨_, rfl, hlen, fun p' o hq => same_off p' _ _ o sameG hq⟩, rfl⟩)
    (fun c hc => .inr ⟨i, _, hi, trivial, hc⟩)
    (fun i' b c hb hne lv hc hn => by
      rcases set_get hb with ⟨rfl, _⟩ | ⟨_, h⟩
      · exact hne rfl
      exact hne (g.inj i' i b _ c h lv hi trivial hc hn))
    (show ((Blk.row true e k xs).feet (pl i)).Nodup from g.nd i _ hi trivial)
    (Nat.le_refl _) rfl rfl rfl (fun c _ => .inl rfl)
    (fun hle => by
      refine ⟨es, by rw [hlen]; exact r1, RRcs.mono hle.pure _ _ _ (fun c _ => rfl) k3, ?_, r4⟩
      intro y hy'
      obtain ⟨n, hn⟩ := List.getElem_of_mem hy'
      obtain ⟨hn1, hn2⟩ := hn
      obtain ⟨x, hx1, hx2⟩ := sames_get xs _ n y (by simpa only [same] using sameG) (by rw [← hn2]; exact List.getElem?_eq_getElem hn1)
      rw [same_size _ _ hx2]
      exact r3 x (List.mem_of_getElem? hx1))
inductive Nl where
  | tmp (t : Nat) (p : List Nat) (tt : Bool) (e k : Nat)
  | box (i : Nat) (p : List Nat) (tt : Bool) (e k : Nat)
  | row (i : Nat) (p : List Nat) (e k : Nat)

def nilK : List Nl → List LV → List Blk → (List LV → List Blk → Prop) → Prop
  | [], ts, H, K => K ts H
  | .tmp t p tt e k :: r, ts, H, K => match ts[t]? with
    | some x => match getP x p with
      | some .nil => match Nat.blt 0 k with
        | true => deepK (setP x p (.hs H.length 0)) fun x' => setK ts t x' fun ts' => appK H (.row tt e k []) fun H' => nilK r ts' H' K
        | false => False
      | _ => False
    | none => False
  | .box i p tt e k :: r, ts, H, K => match H[i]? with
    | some (.box c) => match getP c p with
      | some .nil => match Nat.blt 0 k with
        | true => deepK (setP c p (.hs H.length 0)) fun c' => setHK H i (.box c') fun H1 => appK H1 (.row tt e k []) fun H2 => nilK r ts H2 K
        | false => False
      | _ => False
    | _ => False
  | .row i p e k :: r, ts, H, K => match H[i]? with
    | some (.row true e0 k0 xs) => match getP (.st xs) p with
      | some .nil => match Nat.blt 0 k with
        | true => match setP (.st xs) p (.own e k []) with
          | .st ys => setHK H i (.row true e0 k0 ys) fun H1 => nilK r ts H1 K
          | _ => False
        | false => False
      | _ => False
    | _ => False

theorem setP_RC {ρ : Ctx} {y : LV} : ∀ (p : List Nat) (c x : LV) (es : List Value), RC ρ c es → getP c p = some x → (∀ d, RC ρ x d → RC ρ y d) → RC ρ (setP c p y) es
  | [], c, x, es, h, hg, k => by
    have e : c = x := by cases c <;> simpa [getP] using hg
    subst e
    have : setP c [] y = y := by cases c <;> rfl
    rw [this]; exact k es h
  | f :: p, c, x, es, h, hg, k => by
    cases c <;> simp only [getP] at hg <;> try cases hg
    rename_i fs
    cases hf : fs[f]? with
    | none => rw [hf] at hg; cases hg
    | some z =>
      rw [hf] at hg
      rw [RC_st] at h
      obtain ⟨c1, d, c2, rfl, h1, h2, h3, h4⟩ := RCs.get h hf
      simp only [setP, hf]
      rw [RC_st]
      exact RCs_set fs f z _ c1 c2 d hf h1 h3 (setP_RC p z x d h2 hg k)

theorem setP_RT {ρ : Ctx} {y : LV} (hy : isSt y = false) (hb : okBox y = true) {p : List Nat} {c x : LV} {v : Value} (h : RT ρ c v) (hg : getP c p = some x) (hx : isSt x = false) (hxb : okBox x = true) (k : ∀ d, RC ρ x d → RC ρ y d) : RT ρ (setP c p y) v := by
  cases p with
  | nil =>
    have e : c = x := by cases c <;> simpa [getP] using hg
    subst e
    have : setP c [] y = y := by cases c <;> rfl
    rw [this]
    have h1 : RC ρ c [v] := by cases c <;> first | exact h | (cases hx; done) | (cases hxb; done)
    have := k _ h1
    cases y <;> first | exact this | (cases hy; done) | (cases hb; done)
  | cons f q =>
    cases c <;> simp only [getP] at hg <;> try cases hg
    rename_i fs
    obtain ⟨cs, rfl, h1⟩ := h
    have := setP_RC (y := y) (f :: q) (.st fs) x _ (RC_st.2 h1) (by simp only [getP]; exact hg) k
    have e : ∃ gs, setP (.st fs) (f :: q) y = .st gs := by simp only [setP]; split <;> exact ⟨_, rfl⟩
    obtain ⟨gs, e⟩ := e
    rw [e] at this ⊢
    exact ⟨cs, rfl, RC_st.1 this⟩

theorem nilK_sound {X : Nat → Prop} {B : Nat} {W0 : Orig} {w : World} {a : Act} : ∀ (ns : List Nl) (ts : List LV) (H : List Blk) (K : List LV → List Blk → Prop) (pl : Nat → PV), nilK ns ts H K → Sim X B W0 ⟨ts, H⟩ a w pl →
    ∃ ts' H' pl', K ts' H' ∧ Sim X B W0 ⟨ts', H'⟩ a w pl'
  | [], ts, H, K, pl, h, s => ⟨ts, H, pl, h, s⟩
  | n :: r, ts, H, K, pl, h, s => by
    -- the empty row, laid behind
    have push : ∀ (tt : Bool) (e k : Nat), 0 < k → Sim X B W0 ⟨ts, H ++ [.row tt e k []]⟩ a w (upd pl H.length ⟨.slice none 0 0, []⟩) := fun tt e k hk =>
      Sim.push s (Below.refl _ _) (u := ⟨.slice none 0 0, []⟩) (blk := .row tt e k []) (by cases tt <;> simp [Blk.feet, feet, hasBk]) (by cases tt <;> simp [Blk.feet, feet, hasBk])
        ⟨[], World.ownsRow_nil w B e k, by cases tt <;> simp [RCs, RRcs], by simp, hk⟩
    have nl : ∀ (tt : Bool) (e k : Nat) (d : List Value), RC (ctx X (H ++ [.row tt e k []]) (upd pl H.length ⟨.slice none 0 0, []⟩) w) .nil d → RC (ctx X (H ++ [.row tt e k []]) (upd pl H.length ⟨.slice none 0 0, []⟩) w) (.hs H.length 0) d := by
      intro tt e k d h
      simp only [RC] at h ⊢
      exact ⟨_, h, by simp, ⟨_, _, _, rfl⟩, fun b xs _ _ _ => by rw [upd_same]⟩
    cases n with
    | tmp t p tt e k =>
      simp only [nilK] at h
      split at h
      · rename_i x hx
        split at h
        · rename_i hg
          split at h
          · rename_i hk
            rw [deepK_eq, setK_eq, appK_eq] at h
            have s1 := push tt e k (by simpa using hk)
            refine nilK_sound r _ _ K _ h ⟨s1.good, s1.defers, by rw [s1.size]; simp, fun t' x' hx' => ?_, s1.le⟩
            have hx'' : (ts.set t (setP x p (.hs H.length 0)))[t']? = some x' := hx'
            rw [List.getElem?_set] at hx''
            split at hx''
            · rename_i e'
              subst e'
              split at hx''
              · cases hx''
                exact setP_RT rfl rfl (s1.tmps t x hx) hg rfl rfl (nl tt e k)
              · cases hx''
            · exact s1.tmps t' x' hx''
          · exact h.elim
        · exact h.elim
      · exact h.elim
    | box i p tt e k =>
      simp only [nilK] at h
      split at h
      · rename_i c hc
        split at h
        · rename_i hg
          split at h
          · rename_i hk
            rw [deepK_eq, setHK_eq, appK_eq] at h
            have s1 := push tt e k (by simpa using hk)
            have hlt := lt_of_get hc
            have hc1 : (H ++ [.row tt e k []])[i]? = some (.box c) := by rw [push_old hlt]; exact hc
            obtain ⟨b, es, ty, e1, e2, e3, e4⟩ := s1.good.ok i _ hc1
            have hrel : relBlk (.box c) (.box (setP c p (.hs H.length 0))) := fun q o hq => same_off q c _ o (setP_same p c .nil _ hg rfl) hq
            have hb : hasBk ((upd pl H.length ⟨.slice none 0 0, []⟩) i).v = true := by rw [e1]; rfl
            have hle := ctx_set (X := X) (w := w) (w' := w) (u := (upd pl H.length ⟨.slice none 0 0, []⟩) i) hc1 hrel rfl (fun _ h => h) hb (fun _ _ => rfl) rfl
            have s2 := s1.setBlk (u := (upd pl H.length ⟨.slice none 0 0, []⟩) i) hc1 hrel rfl (fun _ h => h) (feet_nodup _) hb (fun _ _ => rfl) rfl rfl rfl rfl
              ⟨b, es, ty, e1, e2, e3, RC.mono hle _ _ (setP_RC p c .nil es e4 hg (nl tt e k))⟩
            have eH : (H ++ [Blk.row tt e k []]).set i (.box (setP c p (.hs H.length 0))) = H.set i (.box (setP c p (.hs H.length 0))) ++ [.row tt e k []] := List.set_append_left _ _ hlt
            rw [eH] at s2
            exact nilK_sound r _ _ K _ h s2
          · exact h.elim
        · exact h.elim
      · exact h.elim
    | row i p e k =>
      simp only [nilK] at h
      split at h
      · rename_i e0 k0 xs hc
        split at h
        · rename_i hg
          split at h
          · rename_i hk
            split at h
            · rename_i ys hy
              rw [setHK_eq] at h
              obtain ⟨g1, hle⟩ := good_nilEl s.good hc hg hy (by simpa using hk)
              exact nilK_sound r _ _ K _ h ⟨g1, s.defers, s.size, fun t x hx => RT.mono hle _ _ (s.tmps t x hx), s.le.trans hle⟩
            · exact h.elim
          · exact h.elim
        · exact h.elim
      · exact h.elim

/-- One element of a tree's row is frozen for good. -/
def fzK (H : List Blk) (id j : Nat) (K : List Blk → Prop) : Prop := ∃ e k xs x, H[id]? = some (.row true e k xs) ∧ xs[j]? = some x ∧ K (H.set id (.row true e k (xs.set j (dm x))))
theorem fzK_sound {X : Nat → Prop} {B : Nat} {W0 : Orig} {H : List Blk} {pl : Nat → PV} {w : World} {ts : List LV} {a : Act} {id j : Nat} {K : List Blk → Prop} (h : fzK H id j K) (s : Sim X B W0 ⟨ts, H⟩ a w pl) : ∃ H' pl', K H' ∧ Sim X B W0 ⟨ts, H'⟩ a w pl' := by
  obtain ⟨e, k, xs, x, h1, h2, h3⟩ := h
  obtain ⟨pl', s'⟩ := sim_fz s h1 h2
  exact ⟨_, pl', h3, s'⟩
/-- What was opened is closed, one element is frozen. -/
def weakF (n0 : Nat) (σ : List Kp) (id j : Nat) (ts : List LV) (H : List Blk) (ts' : List LV) (H' : List Blk) : Prop :=
  wkR σ ts ts' ∧ (closeAll σ H' H fun H1 => fzK H1 id j fun H2 => wkHR σ H2 σ H') ∧ (nodupN (olds σ) && prefB n0 0 σ) = true

/-- One of the four. -/
inductive Weak (n0 : Nat) (ts : List LV) (H : List Blk) (ts' : List LV) (H' : List Blk) : Prop where
  | inl (h : weak n0 ts H ts' H')
  | inr (h : ∃ σ, weakR n0 σ ts H ts' H')
  | nl (ns : List Nl) (σ : List Kp) (h : nilK ns ts H fun ts1 H1 => weakR n0 σ ts1 H1 ts' H')
  | fz (id j : Nat) (σ : List Kp) (h : weakF n0 σ id j ts H ts' H')
theorem Sim.weakAny {X : Nat → Prop} {B : Nat} {W0 : Orig} {H H' : List Blk} {pl : Nat → PV} {w : World} {ts ts' : List LV} {a : Act} {n0 : Nat} (s : Sim X B W0 ⟨ts, H⟩ a w pl) (h : Weak n0 ts H ts' H') (hn : n0 = W0.H.length) :
    ∃ pl', Sim X B W0 ⟨ts', H'⟩ a w pl' := by
  cases h with
  | inl h => exact ⟨_, s.weak h hn⟩
  | inr h => obtain ⟨σ, h⟩ := h; exact s.weakR h hn
  | nl ns σ h =>
    obtain ⟨ts1, H1, pl1, h1, s1⟩ := nilK_sound ns ts H _ pl h s
    exact s1.weakR h1 hn
  | fz id j σ h =>
    obtain ⟨h1, h2, h3⟩ := h
    obtain ⟨H1, pl1, h4, s1⟩ := closeAll_sound σ H' H _ pl h2 s
    obtain ⟨H2, pl2, h5, s2⟩ := fzK_sound h4 s1
    exact ⟨_, s2.weakR0 h1 h5 h3 hn⟩

/-! ### Code -/

inductive Ex where
  | normal
  | exit (id : Nat)
  | ret

def Ex.toExit : Ex → Exit
  | .normal => .normal
  | .exit id => .exit id
  | .ret => .ret

@[irreducible] def loopW (n0 : Nat) (_ : Code) (body : List LV → List Blk → (Ex → List LV → List Blk → Prop) → Prop) (ts : List LV) (H : List Blk) (K : Ex → List LV → List Blk → Prop) : Prop :=
  ∃ I : Nat → List LV → List Blk → Prop, (∃ n ts' H', Weak n0 ts H ts' H' ∧ I n ts' H') ∧
    ∀ n ts H, I n ts H → body ts H fun e ts' H' => match e with
      | .normal => ∃ m ts'' H'', m < n ∧ Weak n0 ts' H' ts'' H'' ∧ I m ts'' H''
      | .exit id => K (.exit id) ts' H'
      | .ret => K .ret ts' H'

/-- Where the order is open, no call writes what it is lent. -/
def Env.q (E : Env) : Env := { E with hf := [] }
theorem EnvOK.q {E : Env} (h : EnvOK E) : EnvOK E.q := ⟨h.t, h.z, h.m, h.c, h.mm, h.b, h.mp⟩

/-- What comes next, at these readings: a constant, so that what comes next is not copied where it stands. -/
def kk (K : Ex → List LV → List Blk → Prop) (e : Ex) (ts : List LV) (H : List Blk) : Prop := K e ts H

abbrev CW := List LV → List Blk → (Ex → List LV → List Blk → Prop) → Prop
def cSkip : CW := fun ts H K => K .normal ts H
def cRegion (E : Env) (_ : Nat) (ops : Array Oper) (draw : Bool) : CW := fun ts H K => match draw with
  | false => opsF E ops ops.toList ts H fun ts' H' => kk K .normal ts' H'
  | true => ∃ b : Bool, match b with
    | true => drawB [] ops = true ∧ opsW E.q ops ops.toList ts H fun ts' H' => kk K .normal ts' H'
    | false => ∃ n : Nat, match n with
      | 0 => ∃ m : Nat, match m with
        | 0 => ∃ z : Nat, match z with
          | 0 => ∃ (l : List Nat) (sc : Scr), prB E.hf ops l sc = true ∧ takesW E ops l ts H fun ts1 H1 => ∃ tsC HC, scrA E ops sc ts1 H1 (fun ts' H' => Weak E.n0 ts' H' tsC HC) ∧ kk K .normal tsC HC
          | z + 1 => ∃ (l : List Nat) (sc : Scr), (Nat.ble (z + 1) ops.size && lastsQ ops l (z + 1)) = true ∧ prB E.hf (swapN ops (z + 1)) l sc = true ∧ takesW E (swapN ops (z + 1)) l ts H fun ts1 H1 => ∃ tsC HC, scrA E (swapN ops (z + 1)) sc ts1 H1 (fun ts' H' => Weak E.n0 ts' H' tsC HC) ∧ tailW E ops (z + 1) tsC HC fun ts' H' => kk K .normal ts' H'
        | m + 1 => ∃ ids : List Nat, callSB (m + 1) ops = true ∧ headW E ops (m + 1) ids ts H fun ts' H' => kk K .normal ts' H'
      | n + 1 => okB E.hf (n + 1) ops = true ∧ opsF E ops ops.toList ts H fun ts' H' => kk K .normal ts' H'
def cSeq (x y : CW) : CW := fun ts H K => x ts H fun e ts' H' => match e with
  | .normal => y ts' H' K
  | .exit id => kk K (.exit id) ts' H'
  | .ret => kk K .ret ts' H'
def cCond (c : Operand) (x y : CW) : CW := fun ts H K => match ev ts c with
  | .bool b => br b (x ts H K) (y ts H K)
  | _ => False
def cBlock (id : Nat) (b : CW) : CW := fun ts H K => b ts H fun e ts' H' => match e with
  | .normal => kk K .normal ts' H'
  | .exit id' => match Nat.beq id' id with | true => kk K .normal ts' H' | false => kk K (.exit id') ts' H'
  | .ret => kk K .ret ts' H'
def cLoop (E : Env) (c : Code) (b : CW) : CW := fun ts H K => loopW E.n0 c b ts H K
def cExit (id : Nat) : CW := fun ts H K => K (.exit id) ts H
def cRet : CW := fun ts H K => K .ret ts H
def cNo : CW := fun _ _ _ => False

/-- By the recursor itself, so that the kernel's steps and the elaborator's are the same. -/
def codeW (E : Env) (c : Code) : CW :=
  Code.rec (motive := fun _ => CW) cSkip (cRegion E) (fun _ _ x y => cSeq x y) (fun c _ _ x y => cCond c x y) (fun id _ b => cBlock id b) (fun c b => cLoop E c b) (fun _ _ _ _ _ _ => cNo) cExit
    (fun _ b => b) (fun _ => cSkip) (fun _ => cNo) cRet (fun _ => cNo) c

section
variable {E : Env} {ts : List LV} {H : List Blk} {K : Ex → List LV → List Blk → Prop}
theorem codeW_skip : codeW E .skip ts H K = K .normal ts H := rfl
theorem codeW_region {id : Nat} {ops : Array Oper} : codeW E (.region id ops false) ts H K = opsF E ops ops.toList ts H fun ts' H' => K .normal ts' H' := rfl
theorem codeW_draw {id : Nat} {ops : Array Oper} : codeW E (.region id ops true) ts H K = (∃ b : Bool, match b with
    | true => drawB [] ops = true ∧ opsW E.q ops ops.toList ts H fun ts' H' => K .normal ts' H'
    | false => ∃ n : Nat, match n with
      | 0 => ∃ m : Nat, match m with
        | 0 => ∃ z : Nat, match z with
          | 0 => ∃ (l : List Nat) (sc : Scr), prB E.hf ops l sc = true ∧ takesW E ops l ts H fun ts1 H1 => ∃ tsC HC, scrA E ops sc ts1 H1 (fun ts' H' => Weak E.n0 ts' H' tsC HC) ∧ K .normal tsC HC
          | z + 1 => ∃ (l : List Nat) (sc : Scr), (Nat.ble (z + 1) ops.size && lastsQ ops l (z + 1)) = true ∧ prB E.hf (swapN ops (z + 1)) l sc = true ∧ takesW E (swapN ops (z + 1)) l ts H fun ts1 H1 => ∃ tsC HC, scrA E (swapN ops (z + 1)) sc ts1 H1 (fun ts' H' => Weak E.n0 ts' H' tsC HC) ∧ tailW E ops (z + 1) tsC HC fun ts' H' => K .normal ts' H'
        | m + 1 => ∃ ids : List Nat, callSB (m + 1) ops = true ∧ headW E ops (m + 1) ids ts H fun ts' H' => K .normal ts' H'
      | n + 1 => okB E.hf (n + 1) ops = true ∧ opsF E ops ops.toList ts H fun ts' H' => K .normal ts' H') := rfl
theorem codeW_seq {x y : Code} : codeW E (.seq x y) ts H K = codeW E x ts H fun e ts' H' => match e with
    | .normal => codeW E y ts' H' K
    | .exit id => K (.exit id) ts' H'
    | .ret => K .ret ts' H' := rfl
theorem codeW_cond {c : Operand} {x y : Code} : codeW E (.cond c x y) ts H K = match ev ts c with
    | .bool b => br b (codeW E x ts H K) (codeW E y ts H K)
    | _ => False := rfl
theorem codeW_block {id : Nat} {b : Code} : codeW E (.block id b) ts H K = codeW E b ts H fun e ts' H' => match e with
    | .normal => K .normal ts' H'
    | .exit id' => match Nat.beq id' id with | true => K .normal ts' H' | false => K (.exit id') ts' H'
    | .ret => K .ret ts' H' := rfl
theorem codeW_loop {b : Code} : codeW E (.loop b) ts H K = loopW E.n0 b (codeW E b) ts H K := rfl
theorem codeW_scope {b : Code} : codeW E (.scope b) ts H K = codeW E b ts H K := rfl
theorem codeW_label {l : Nat} : codeW E (.label l) ts H K = K .normal ts H := rfl
theorem codeW_exit {id : Nat} : codeW E (.exit id) ts H K = K (.exit id) ts H := rfl
theorem codeW_ret : codeW E .ret ts H K = K .ret ts H := rfl
end

/-- A loop whose rounds are counted down beside the state. -/
theorem wp_loop_n {P : Program} {Q : Exit → Act → World → Prop} {c : Code} (I : Nat → Act → World → Prop)
    (round : ∀ n a w, I n a w → c.wp P (Exit.then (fun a' w' => ∃ m, m < n ∧ I m a' w') Q) a w) (n : Nat) (a : Act) (w : World) (h₀ : I n a w) : (Code.loop c).wp P Q a w := by
  intro b k cs
  have key : ∀ n a w, I n a w → ∃ e a' w', Q e a' w' ∧ Arrives P (lone (b.at a (.code c :: .inLoop c :: k)) cs w) b k cs e a' w' := by
    intro n
    induction n using Nat.strongRecOn with
    | _ n ih =>
      intro a w hI
      obtain ⟨e, a₁, w₁, hq, harr⟩ := round n a w hI b (.inLoop c :: k) cs
      cases e with
      | normal =>
        obtain ⟨m, hlt, hI₁⟩ := hq
        obtain ⟨e₂, a₂, w₂, hq₂, harr₂⟩ := ih m hlt a₁ w₁ hI₁
        exact ⟨e₂, a₂, w₂, hq₂, .of_steps (Steps.trans harr (.one step_inLoop)) harr₂⟩
      | exit id => exact ⟨_, a₁, w₁, hq, .pass (x := .inLoop c) rfl (fun _ _ => .inl (by simp)) harr⟩
      | goto l => exact ⟨_, a₁, w₁, hq, .pass (x := .inLoop c) rfl (fun _ _ => .inl (by simp)) harr⟩
      | ret => exact ⟨_, a₁, w₁, hq, .pass (x := .inLoop c) rfl (fun _ _ => .inl (by simp)) harr⟩
      | panic ch => exact ⟨_, a₁, w₁, hq, .pass (x := .inLoop c) rfl (fun _ _ => .inl (by simp)) harr⟩
      | outgrown => exact ⟨_, a₁, w₁, hq, .pass (x := .inLoop c) rfl (fun _ _ => .inl (by simp)) harr⟩
  obtain ⟨e, a', w', hq, harr⟩ := key n a w h₀
  exact ⟨e, a', w', hq, .of_steps (.one step_loop) harr⟩

theorem codeW_sound {E : Env} (hE : EnvOK E) {X : Nat → Prop} {B : Nat} {W0 : Orig} (hn : E.n0 = W0.H.length) : ∀ (c : Code) (K : Ex → List LV → List Blk → Prop) (Q : Exit → Act → World → Prop),
    (∀ e ts H a w pl, K e ts H → Sim X B W0 ⟨ts, H⟩ a w pl → Q e.toExit a w) → ∀ (ts : List LV) (H : List Blk) (a : Act) (w : World) (pl : Nat → PV),
    codeW E c ts H K → Sim X B W0 ⟨ts, H⟩ a w pl → c.wp E.P Q a w
  | .skip, K, Q, hK, ts, H, a, w, pl, h, s => by simp only [codeW_skip] at h; exact wp_skip (hK .normal ts H a w pl h s)
  | .region id ops false, K, Q, hK, ts, H, a, w, pl, h, s => by
    simp only [codeW_region] at h
    exact wp_region_list (opsF_sound hE (K := fun ts' H' => K .normal ts' H') (fun ts H a w pl k s => hK .normal ts H a w pl k s) _ ts H a w pl h s)
  | .region id ops true, K, Q, hK, ts, H, a, w, pl, h, s => by
    simp only [codeW_draw] at h
    obtain ⟨b, h⟩ := h
    cases b with
    | true => exact wp_region_any hE.m (draw_sound (E := E.q) hE.q (drawB_spec h.1) (K := fun ts' H' => K .normal ts' H') (fun ts H a w pl k s => hK .normal ts H a w pl k s) h.2 s)
    | false =>
      obtain ⟨n, h⟩ := h
      cases n with
      | zero =>
        obtain ⟨m, h⟩ := h
        cases m with
        | zero =>
          obtain ⟨z, h⟩ := h
          cases z with
          | zero =>
            obtain ⟨l, sc, h1, h2⟩ := h
            exact wp_region_any hE.m (pr_sound hE h1 (Wk := fun ts H ts' H' => Weak E.n0 ts H ts' H') (fun ts H ts' H' a w pl hw s => s.weakAny hw hn) (K := fun ts' H' => K .normal ts' H') (fun ts H a w pl k s => hK .normal ts H a w pl k s) h2 s)
          | succ z =>
            obtain ⟨l, sc, h0, h1, h2⟩ := h
            simp only [Bool.and_eq_true] at h0
            exact wp_region_any hE.m (pr_last hE (Nat.le_of_ble_eq_true h0.1) h0.2 h1 (Wk := fun ts H ts' H' => Weak E.n0 ts H ts' H') (fun ts H ts' H' a w pl hw s => s.weakAny hw hn) (K := fun ts' H' => K .normal ts' H') (fun ts H a w pl k s => hK .normal ts H a w pl k s) h2 s)
        | succ m =>
          obtain ⟨ids, h1, h2⟩ := h
          exact wp_region_any hE.m (headW_sound hE h1 (K := fun ts' H' => K .normal ts' H') (fun ts H a w pl k s => hK .normal ts H a w pl k s) h2 s)
      | succ n =>
        obtain ⟨h1, h2⟩ := h
        exact wp_region_any hE.m (okB_sound hE h1 (K := fun ts' H' => K .normal ts' H') (fun ts H a w pl k s => hK .normal ts H a w pl k s) h2 s)
  | .seq x y, K, Q, hK, ts, H, a, w, pl, h, s => by
    simp only [codeW_seq] at h
    refine wp_seq (codeW_sound hE hn x _ _ (fun e ts H a w pl k s => ?_) ts H a w pl h s)
    cases e with
    | normal => exact codeW_sound hE hn y K Q hK ts H a w pl k s
    | exit id => exact hK (.exit id) ts H a w pl k s
    | ret => exact hK .ret ts H a w pl k s
  | .cond c x y, K, Q, hK, ts, H, a, w, pl, h, s => by
    simp only [codeW_cond] at h
    have hv := ev_sound s c
    cases e : ev ts c <;> rw [e] at h <;> try exact h.elim
    rename_i b
    have e' : ev (St.mk ts H).tmps c = .bool b := e
    rw [e'] at hv
    simp only [br] at h
    refine wp_cond_split (RT_bool hv) (fun hb => ?_) (fun hb => ?_)
    · exact codeW_sound hE hn x K Q hK ts H a w pl (h.1 hb) s
    · exact codeW_sound hE hn y K Q hK ts H a w pl (h.2 hb) s
  | .block id b, K, Q, hK, ts, H, a, w, pl, h, s => by
    simp only [codeW_block] at h
    refine wp_block (codeW_sound hE hn b _ _ (fun e ts H a w pl k s => ?_) ts H a w pl h s)
    cases e with
    | normal => exact hK .normal ts H a w pl k s
    | exit id' =>
      show (if id' = id then _ else _)
      simp only at k
      split at k
      · rename_i hh
        rw [if_pos (Nat.eq_of_beq_eq_true hh)]; exact hK .normal ts H a w pl k s
      · rename_i hh
        rw [if_neg (Nat.ne_of_beq_eq_false hh)]; exact hK (.exit id') ts H a w pl k s
    | ret => exact hK .ret ts H a w pl k s
  | .loop b, K, Q, hK, ts, H, a, w, pl, h, s => by
    simp only [codeW_loop, loopW] at h
    obtain ⟨I, ⟨n, ts', H', hw, hI⟩, hr⟩ := h
    obtain ⟨pl0, s0⟩ := s.weakAny hw hn
    refine wp_loop_n (fun n a w => ∃ ts H pl, I n ts H ∧ Sim X B W0 ⟨ts, H⟩ a w pl) ?_ n a w ⟨ts', H', pl0, hI, s0⟩
    rintro n a w ⟨ts, H, pl, hI, s⟩
    refine codeW_sound hE hn b _ _ (fun e ts H a w pl k s => ?_) ts H a w pl (hr n ts H hI) s
    cases e with
    | normal =>
      obtain ⟨m, ts'', H'', hm, hw, hI'⟩ := k
      obtain ⟨pl1, s1⟩ := s.weakAny hw hn
      exact ⟨m, hm, ts'', H'', pl1, hI', s1⟩
    | exit id => exact hK (.exit id) ts H a w pl k s
    | ret => exact hK .ret ts H a w pl k s
  | .exit id, K, Q, hK, ts, H, a, w, pl, h, s => by simp only [codeW_exit] at h; exact wp_exit (hK (.exit id) ts H a w pl h s)
  | .ret, K, Q, hK, ts, H, a, w, pl, h, s => by simp only [codeW_ret] at h; exact wp_ret (hK .ret ts H a w pl h s)
  | .rangeFunc _ _ _ _, _, _, _, _, _, _, _, _, h, _ => False.elim h
  | .scope c, K, Q, hK, ts, H, a, w, pl, h, s => by
    simp only [codeW_scope] at h
    exact wp_scope_straight (codeW_sound hE hn c K (Exit.noGoto Q) (fun e ts H a w pl k s => by
      have := hK e ts H a w pl k s
      cases e <;> exact this) ts H a w pl h s)
  | .label l, K, Q, hK, ts, H, a, w, pl, h, s => by simp only [codeW_label] at h; exact wp_label (hK .normal ts H a w pl h s)
  | .goto _, _, _, _, _, _, _, _, _, h, _ => False.elim h
  | .refuse _, _, _, _, _, _, _, _, _, h, _ => False.elim h

end Go.Lg

