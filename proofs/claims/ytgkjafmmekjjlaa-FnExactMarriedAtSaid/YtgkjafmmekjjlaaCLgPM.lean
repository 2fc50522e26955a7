/- Permutations as lists of numbers: places, inverses, compositions. Of no program. -/
import Derived.KernelRfl
namespace Go.Pm

/-- The place of each number among the first k ones; d where there is none. -/
def plc (d : Int) (ps : List Int) (n : Nat) : Nat → List Int
  | 0 => List.replicate n d
  | k + 1 => (plc d ps n k).set (ps.getD k 0).toNat (k : Int)
/-- Which numbers are among the first k ones. -/
def fnd (ps : List Int) (n : Nat) : Nat → List Bool
  | 0 => List.replicate n false
  | k + 1 => (fnd ps n k).set (ps.getD k 0).toNat true
/-- The first k numbers are below n and different. -/
def okTo (ps : List Int) (n : Nat) : Nat → Bool
  | 0 => true
  | k + 1 => okTo ps n k && (decide (0 ≤ ps.getD k 0) && decide (ps.getD k 0 < n) && !(ps.take k).contains (ps.getD k 0))
def permB (ps : List Int) : Bool := okTo ps ps.length ps.length
def inv (ps : List Int) : List Int := plc (-1) ps ps.length ps.length
def cmp (ps qs : List Int) : List Int := ps.map fun i => qs.getD i.toNat 0
theorem plc_len (d : Int) (ps : List Int) (n : Nat) : ∀ k, (plc d ps n k).length = n
  | 0 => by simp [plc]
  | k + 1 => by simp [plc, plc_len d ps n k]
theorem fnd_len (ps : List Int) (n : Nat) : ∀ k, (fnd ps n k).length = n
  | 0 => by simp [fnd]
  | k + 1 => by simp [fnd, fnd_len ps n k]
theorem okTo_pre {ps : List Int} {n : Nat} : ∀ {m k : Nat}, k ≤ m → okTo ps n m = true → okTo ps n k = true
  | 0, k, h, hm => by have : k = 0 := by omega
                      subst this; exact hm
  | m + 1, k, h, hm => by
    rcases Nat.lt_or_ge m k with h' | h'
    · have : k = m + 1 := by omega
      subst this; exact hm
    · simp only [okTo, Bool.and_eq_true] at hm
      exact okTo_pre h' hm.1
theorem okTo_at {ps : List Int} {n k m : Nat} (h : okTo ps n m = true) (hk : k < m) : 0 ≤ ps.getD k 0 ∧ ps.getD k 0 < n ∧ ps.getD k 0 ∉ ps.take k := by
  have := okTo_pre (Nat.succ_le_of_lt hk) h
  simp only [okTo, Bool.and_eq_true, decide_eq_true_eq, Bool.not_eq_true', List.contains_eq_mem, decide_eq_false_iff_not] at this
  exact ⟨this.2.1.1, this.2.1.2, this.2.2⟩
theorem okTo_step {ps : List Int} {n k : Nat} (h : okTo ps n k = true) (h1 : 0 ≤ ps.getD k 0) (h2 : ps.getD k 0 < n) (h3 : ps.getD k 0 ∉ ps.take k) : okTo ps n (k + 1) = true := by
  simp only [okTo, Bool.and_eq_true, decide_eq_true_eq, Bool.not_eq_true', List.contains_eq_mem, decide_eq_false_iff_not]
  exact ⟨h, ⟨h1, h2⟩, h3⟩
theorem okTo_no {ps : List Int} {n k m : Nat} (hk : k < m) (h : ¬ (0 ≤ ps.getD k 0 ∧ ps.getD k 0 < n ∧ ps.getD k 0 ∉ ps.take k)) : okTo ps n m = false := by
  cases e : okTo ps n m with
  | false => rfl
  | true => exact absurd (okTo_at e hk) h
theorem getD_lt {α : Type} {ps : List α} {k : Nat} {d : α} (h : k < ps.length) : ps.getD k d = ps[k] := by simp [List.getD_eq_getElem?_getD, h]

theorem fnd_get {ps : List Int} {n : Nat} : ∀ {k : Nat}, okTo ps n k = true → k ≤ ps.length → ∀ (i : Nat), i < n → (fnd ps n k)[i]? = some (decide ((i : Int) ∈ ps.take k))
  | 0, _, _, i, hi => by simp [fnd, hi]
  | k + 1, h, hl, i, hi => by
    have ih := fnd_get (okTo_pre (Nat.le_succ k) h) (by omega) i hi
    obtain ⟨h1, h2, h3⟩ := okTo_at h (Nat.lt_succ_self k)
    have hk : k < ps.length := by omega
    rw [getD_lt hk] at h1 h2 h3
    rw [fnd, getD_lt hk, List.take_succ_eq_append_getElem hk, List.getElem?_set]
    by_cases e : ps[k].toNat = i
    · rw [if_pos e, if_pos (by rw [fnd_len]; omega)]
      have : (i : Int) = ps[k] := by omega
      simp only [this, List.mem_append, List.mem_singleton, or_true, decide_true]
    · rw [if_neg e, ih]
      have : (i : Int) ≠ ps[k] := by omega
      simp only [List.mem_append, List.mem_singleton, this, or_false]
theorem plc_at {d : Int} {ps : List Int} {n : Nat} : ∀ {k : Nat}, okTo ps n k = true → k ≤ ps.length → ∀ (j : Nat) (hj : j < k), (plc d ps n k)[(ps.getD j 0).toNat]? = some (j : Int)
  | k + 1, h, hl, j, hj => by
    obtain ⟨h1, h2, h3⟩ := okTo_at h (Nat.lt_succ_self k)
    have hk : k < ps.length := by omega
    rw [plc, List.getElem?_set]
    by_cases e : j = k
    · subst e
      rw [if_pos rfl, if_pos (by rw [plc_len]; omega)]
    · have hjk : j < k := by omega
      have hjl : j < ps.length := by omega
      obtain ⟨j1, j2, _⟩ := okTo_at h hj
      have ne : (ps.getD k 0).toNat ≠ (ps.getD j 0).toNat := fun e' => by
        have : ps.getD k 0 = ps.getD j 0 := by omega
        rw [this, getD_lt hjl] at h3
        exact h3 (List.mem_take_iff_getElem.2 ⟨j, by omega, rfl⟩)
      rw [if_neg ne]
      exact plc_at (okTo_pre (Nat.le_succ k) h) (by omega) j hjk
theorem plc_none {d : Int} {ps : List Int} {n : Nat} : ∀ {k : Nat}, okTo ps n k = true → k ≤ ps.length → ∀ (i : Nat), i < n → (i : Int) ∉ ps.take k → (plc d ps n k)[i]? = some d
  | 0, _, _, i, hi, _ => by simp [plc, hi]
  | k + 1, h, hl, i, hi, hm => by
    obtain ⟨h1, h2, h3⟩ := okTo_at h (Nat.lt_succ_self k)
    have hk : k < ps.length := by omega
    rw [List.take_succ_eq_append_getElem hk, List.mem_append] at hm
    rw [getD_lt hk] at h1 h2
    have ne : ps[k].toNat ≠ i := fun e => hm (.inr (by simp; omega))
    rw [plc, getD_lt hk, List.getElem?_set, if_neg ne]
    exact plc_none (okTo_pre (Nat.le_succ k) h) (by omega) i hi fun h => hm (.inl h)
/-- In the model's list a number is met if its place is not negative. -/
theorem plc_sign {ps : List Int} {n k : Nat} (h : okTo ps n k = true) (hl : k ≤ ps.length) {i : Nat} (hi : i < n) : ∃ v, (plc (-1) ps n k)[i]? = some v ∧ (0 ≤ v ↔ (i : Int) ∈ ps.take k) := by
  by_cases hm : (i : Int) ∈ ps.take k
  · obtain ⟨j, hj, e⟩ := List.mem_take_iff_getElem.1 hm
    have hjk : j < k := by omega
    have hp := plc_at (d := -1) h hl j hjk
    rw [getD_lt (by omega), e] at hp
    refine ⟨_, by simpa using hp, ?_⟩
    simp [hm]
  · exact ⟨_, plc_none h hl i hi hm, by simp [hm]⟩

/-! ### Valid lists -/
theorem okTo_spec {ps : List Int} {n : Nat} : ∀ {k : Nat}, k ≤ ps.length → (okTo ps n k = true ↔ (∀ x ∈ ps.take k, 0 ≤ x ∧ x < n) ∧ (ps.take k).Nodup)
  | 0, _ => by simp [okTo]
  | k + 1, hl => by
    have hk : k < ps.length := by omega
    rw [List.take_succ_eq_append_getElem hk]
    constructor
    · intro h
      obtain ⟨h1, h2, h3⟩ := okTo_at h (Nat.lt_succ_self k)
      obtain ⟨i1, i2⟩ := (okTo_spec (by omega)).1 (okTo_pre (Nat.le_succ k) h)
      rw [getD_lt hk] at h1 h2 h3
      refine ⟨fun x hx => ?_, ?_⟩
      · rcases List.mem_append.1 hx with hx | hx
        · exact i1 x hx
        · simp at hx; subst hx; exact ⟨h1, h2⟩
      · rw [List.nodup_append]
        refine ⟨i2, by simp, fun a ha b hb e => ?_⟩
        simp at hb; subst hb; subst e; exact h3 ha
    · rintro ⟨h1, h2⟩
      rw [List.nodup_append] at h2
      have hx := h1 ps[k] (List.mem_append_right _ (List.mem_singleton.2 rfl))
      refine okTo_step ((okTo_spec (by omega)).2 ⟨fun x hx => h1 x (List.mem_append_left _ hx), h2.1⟩) ?_ ?_ ?_ <;> rw [getD_lt hk]
      · exact hx.1
      · exact hx.2
      · exact fun hm => h2.2.2 _ hm _ (by simp) rfl
theorem permB_spec {ps : List Int} : permB ps = true ↔ (∀ x ∈ ps, 0 ≤ x ∧ x < ps.length) ∧ ps.Nodup := by
  have := okTo_spec (ps := ps) (n := ps.length) (Nat.le_refl _)
  rw [List.take_length] at this
  exact this

theorem pigeon : ∀ (n : Nat) (l : List Int), l.Nodup → (∀ x ∈ l, 0 ≤ x ∧ x < n) → l.length ≤ n
  | 0, l, _, h => by
    cases l with
    | nil => simp
    | cons x l => have := h x (by simp); omega
  | n + 1, l, hn, h => by
    by_cases hm : (n : Int) ∈ l
    · have h1 := pigeon n (l.erase (n : Int)) (hn.erase _) fun x hx => by
        have hne : x ≠ (n : Int) := fun e => by rw [e] at hx; exact (hn.mem_erase_iff.1 hx).1 rfl
        have := h x (List.mem_of_mem_erase hx)
        omega
      rw [List.length_erase_of_mem hm] at h1
      omega
    · exact Nat.le_succ_of_le (pigeon n l hn fun x hx => by
        have hne : x ≠ (n : Int) := fun e => hm (e ▸ hx)
        have := h x hx
        omega)
theorem perm_onto {ps : List Int} (h : permB ps = true) {i : Nat} (hi : i < ps.length) : (i : Int) ∈ ps := by
  obtain ⟨h1, h2⟩ := permB_spec.1 h
  by_cases hm : (i : Int) ∈ ps
  · exact hm
  · have := pigeon ps.length ((i : Int) :: ps) (List.nodup_cons.2 ⟨hm, h2⟩) fun x hx => by
      rcases List.mem_cons.1 hx with rfl | hx
      · omega
      · exact h1 x hx
    simp at this
    omega
/-- All places are taken in the end, whatever stood there. -/
theorem plc_all {ps : List Int} (h : permB ps = true) (d : Int) : plc d ps ps.length ps.length = inv ps := by
  apply List.ext_getElem?
  intro i
  by_cases hi : i < ps.length
  · obtain ⟨j, hj, e⟩ := List.mem_iff_getElem.1 (perm_onto h hi)
    have h1 := plc_at (d := d) h (Nat.le_refl _) j hj
    have h2 := plc_at (d := -1) h (Nat.le_refl _) j hj
    rw [getD_lt hj, e] at h1 h2
    unfold inv
    simp only [Int.toNat_natCast] at h1 h2
    rw [h1, h2]
  · rw [List.getElem?_eq_none (by rw [plc_len]; omega), List.getElem?_eq_none (by unfold inv; rw [plc_len]; omega)]
/-! ### Lists that are filled at the places of a permutation -/
/-- Other names for what a permutation leads to. -/
def rel (w ps : List Int) : List Int := cmp (cmp (inv ps) w) ps
end Go.Pm

