/- Contracts of functions of the program and of its model, told over readings. -/
import Derived.Test.YtgkjafmmekjjlaaCWGC
import Derived.Test.YtgkjafmmekjjlaaCWGA
import Derived.Test.YtgkjafmmekjjlaaCWGD
import Derived.Test.YtgkjafmmekjjlaaCLgSO
import Derived.Shelf.SlSortCmp.NoneTotal
import Derived.Test.YtgkjafmmekjjlaaChecked
namespace Go.Proofs.Ytgkjafmmekjjlaa
open Go.Lg
set_option maxHeartbeats 800000
set_option linter.unusedVariables false
set_option linter.unusedSimpArgs false

/-! ### Steps up -/
/-- r is a parent of x. -/
def isPa (ps : List Per) (x r : Nat) : Prop := ∃ h : x < ps.length, ps[x].father = (r : Int) ∨ ps[x].mother = (r : Int)
/-- So many steps lead up from one person to another. -/
inductive UpN (ps : List Per) : Nat → Nat → Nat → Prop
  | zero (p : Nat) : UpN ps 0 p p
  | step {n p r q : Nat} : isPa ps p r → UpN ps n r q → UpN ps (n + 1) p q
theorem UpN.snoc {ps : List Per} {n p x q : Nat} (h : UpN ps n p x) (hx : isPa ps x q) : UpN ps (n + 1) p q := by
  induction h with
  | zero p => exact .step hx (.zero q)
  | step h1 h2 ih => exact .step h1 (ih hx)
theorem UpN.last {ps : List Per} {n p q : Nat} (h : UpN ps (n + 1) p q) : ∃ x, UpN ps n p x ∧ isPa ps x q := by
  induction n generalizing p with
  | zero =>
    cases h with
    | step h1 h2 => cases h2 with | zero => exact ⟨p, .zero p, h1⟩
  | succ n ih =>
    cases h with
    | step h1 h2 =>
      obtain ⟨x, hx, hq⟩ := ih h2
      exact ⟨x, .step h1 hx, hq⟩
theorem isPa_lt {ps : List Per} (hp : parsIn ps) {x r : Nat} (h : isPa ps x r) : r < x := by
  obtain ⟨hx, h⟩ := h
  have := hp x hx
  rcases h with h | h
  · rcases this.1 with h1 | h1 <;> omega
  · rcases this.2 with h1 | h1 <;> omega
theorem UpN.le {ps : List Per} (hp : parsIn ps) {n p q : Nat} (h : UpN ps n p q) : q + n ≤ p := by
  induction h with
  | zero p => omega
  | step h1 h2 ih => have := isPa_lt hp h1; omega
theorem UpN.lt {ps : List Per} {n p q : Nat} (h : UpN ps n p q) (hq : q < ps.length) (h0 : n ≠ 0) : p < ps.length := by
  cases h with
  | zero => exact absurd rfl h0
  | step h1 _ => exact h1.1
theorem UpN.add {ps : List Per} {n p x : Nat} (h : UpN ps n p x) {m q : Nat} (k : UpN ps m x q) : UpN ps (n + m) p q := by
  induction h with
  | zero p => rw [Nat.zero_add]; exact k
  | step h1 h2 ih => rw [Nat.add_right_comm]; exact .step h1 (ih k)
/-- The depth of a person. -/
def dpt (ps : List Per) (i : Nat) : Int := (depths ps).getD i 0
theorem depTo_get (ps : List Per) {i k : Nat} (h : i < k) : ∀ n, k ≤ n → (depTo ps n).getD i 0 = (depTo ps k).getD i 0 := by
  intro n hn
  induction n with
  | zero => omega
  | succ n ih =>
    rcases Nat.lt_or_ge n k with h1 | h1
    · have : k = n + 1 := by omega
      subst this; rfl
    · have e := ih h1
      rw [← e]
      simp only [depTo, List.getD_eq_getElem?_getD]
      rw [List.getElem?_append_left (by rw [depTo_len]; omega)]
theorem dpt_rec {ps : List Per} {i : Nat} (h : i < ps.length) : dpt ps i = dep2 (depTo ps i) ps[i] := by
  unfold dpt depths
  rw [depTo_get ps (i := i) (k := i + 1) (by omega) ps.length (by omega), depTo_succ h, List.getD_eq_getElem?_getD, List.getElem?_append_right (by rw [depTo_len]; exact Nat.le_refl _), depTo_len, Nat.sub_self]
  rfl
theorem dpt_par {ps : List Per} (hp : parsIn ps) {x r : Nat} (h : isPa ps x r) : dpt ps r + 1 ≤ dpt ps x := by
  have hr := isPa_lt hp h
  obtain ⟨hx, h⟩ := h
  have e : dep (depTo ps x) (r : Int) = dpt ps r + 1 := by
    unfold dep
    rw [leI_t.2 (by omega : (0 : Int) ≤ (r : Int))]
    show (depTo ps x).getD r 0 + 1 = _
    unfold dpt depths
    rw [depTo_get ps hr ps.length (by omega)]
  rw [dpt_rec hx]
  unfold dep2 maxI
  rcases h with h | h
  · rw [h, e]; split <;> omega
  · rw [h, e]; split <;> omega
theorem dpt_range {ps : List Per} (i : Nat) : 0 ≤ dpt ps i := by
  unfold dpt
  rw [List.getD_eq_getElem?_getD]
  cases e : (depths ps)[i]? with
  | none => exact Int.le_refl _
  | some v => exact (depTo_range ps _ v (List.mem_of_getElem? e)).1
theorem dpt_small {ps : List Per} (h : shallow (depths ps) = true) (i : Nat) : dpt ps i ≤ 10 := by
  unfold dpt
  rw [List.getD_eq_getElem?_getD]
  cases e : (depths ps)[i]? with
  | none => show (0 : Int) ≤ 10; omega
  | some v =>
    unfold shallow at h
    exact leI_t.1 (List.all_eq_true.1 h v (List.mem_of_getElem? e))
theorem UpN.dpt {ps : List Per} (hp : parsIn ps) {n p q : Nat} (h : UpN ps n p q) : dpt ps q + n ≤ dpt ps p := by
  induction h with
  | zero p => simp
  | step h1 h2 ih => have := dpt_par hp h1; push_cast; omega
theorem UpN.small {ps : List Per} (hp : parsIn ps) (hs : shallow (depths ps) = true) {n p q : Nat} (h : UpN ps n p q) : n ≤ 10 := by
  have h1 := h.dpt hp
  have h2 := dpt_small hs p
  have h3 := dpt_range (ps := ps) q
  omega
/-- The least number of steps up; -1 if there are none. -/
def isLeast (ps : List Per) (p q : Nat) (m : Int) : Prop := (∀ n, UpN ps n p q → 0 ≤ m ∧ m ≤ n) ∧ (m = -1 ∨ (0 ≤ m ∧ UpN ps m.toNat p q))
theorem isLeast.zero {ps : List Per} {p q : Nat} {m : Int} (h : isLeast ps p q m) : m = 0 ↔ p = q := by
  constructor
  · intro e
    subst e
    rcases h.2 with h2 | ⟨_, h3⟩
    · omega
    · cases h3; rfl
  · intro e
    subst e
    have := h.1 0 (.zero p); omega
theorem isLeast.range {ps : List Per} {p q : Nat} {m : Int} (h : isLeast ps p q m) : -1 ≤ m := by
  rcases h.2 with h | ⟨h, _⟩ <;> omega

/-! ### As the model reckons them -/
theorem known_pa {ps : List Per} (hp : parsIn ps) {x : Nat} (h : x < ps.length) {v : Int} : v ∈ known ps[x] ↔ ∃ r : Nat, v = r ∧ isPa ps x r := by
  have := hp x h
  unfold known notNone
  simp only [List.mem_filter, List.mem_cons, List.not_mem_nil, or_false, notB_t, eqI_f]
  constructor
  · rintro ⟨h1, h2⟩
    have h0 : 0 ≤ v := by
      rcases h1 with h1 | h1
      · rcases this.1 with k | k <;> omega
      · rcases this.2 with k | k <;> omega
    refine ⟨v.toNat, by omega, h, ?_⟩
    rcases h1 with h1 | h1
    · exact .inl (by omega)
    · exact .inr (by omega)
  · rintro ⟨r, rfl, _, h1⟩
    refine ⟨?_, by omega⟩
    rcases h1 with h1 | h1
    · exact .inl h1.symm
    · exact .inr h1.symm
/-- One parent is laid so many steps up, if that is less. -/
def rlx (o : List Int) (d : Int) (q : Int) : List Int := match ltI (o.getD q.toNat 0) 0 || ltI d (o.getD q.toNat 0) with | true => o.set q.toNat d | false => o
def rlxs (o : List Int) (d : Int) (qs : List Int) : List Int := qs.foldl (fun o q => rlx o d q) o
def relax (ps : List Per) (o : List Int) (x : Nat) : List Int := match ltI (o.getD x 0) 0 with
  | true => o
  | false => match ps[x]? with | some p => rlxs o (o.getD x 0 + 1) (known p) | none => o
def upTo (ps : List Per) (p : Nat) : Nat → List Int
  | 0 => (List.replicate ps.length (-1)).set p 0
  | j + 1 => relax ps (upTo ps p j) (ps.length - 1 - j)
/-- spec.l8Up. -/
def upS (ps : List Per) (p : Nat) : List Int := upTo ps p ps.length
theorem rlx_len (o : List Int) (d q : Int) : (rlx o d q).length = o.length := by unfold rlx; split <;> simp
theorem rlxs_len (d : Int) : ∀ (qs : List Int) (o : List Int), (rlxs o d qs).length = o.length
  | [], o => rfl
  | q :: qs, o => by show (rlxs (rlx o d q) d qs).length = _; rw [rlxs_len d qs, rlx_len]
theorem relax_len (ps : List Per) (o : List Int) (x : Nat) : (relax ps o x).length = o.length := by
  unfold relax; split
  · rfl
  · split
    · exact rlxs_len _ _ _
    · rfl
theorem upTo_len (ps : List Per) (p : Nat) : ∀ j, (upTo ps p j).length = ps.length
  | 0 => by simp [upTo]
  | j + 1 => by rw [upTo, relax_len, upTo_len ps p j]
theorem getD_set {o : List Int} {i j : Nat} {v : Int} (h : i < o.length) : (o.set i v).getD j 0 = if i = j then v else o.getD j 0 := by
  simp only [List.getD_eq_getElem?_getD, List.getElem?_set]
  split
  · rename_i e; subst e; simp [h]
  · rfl
/-- What may be known of the row when all above x have been looked at. -/
structure UpInv (ps : List Per) (p x : Nat) (o : List Int) : Prop where
  len : o.length = ps.length
  own : o.getD p 0 = 0
  real : ∀ q, q < ps.length → o.getD q 0 = -1 ∨ (0 ≤ o.getD q 0 ∧ UpN ps (o.getD q 0).toNat p q)
  done : ∀ y, x ≤ y → y < ps.length → 0 ≤ o.getD y 0 → ∀ r, isPa ps y r → 0 ≤ o.getD r 0 ∧ o.getD r 0 ≤ o.getD y 0 + 1
theorem rlx_get {o : List Int} {d q : Int} (h0 : 0 ≤ q) (hq : q.toNat < o.length) (j : Nat) : (rlx o d q).getD j 0 = if q.toNat = j ∧ (o.getD j 0 < 0 ∨ d < o.getD j 0) then d else o.getD j 0 := by
  unfold rlx
  split
  · rename_i e
    simp only [Bool.or_eq_true, ltI_t] at e
    rw [getD_set hq]
    by_cases hj : q.toNat = j
    · rw [if_pos hj, if_pos ⟨hj, by rw [← hj]; exact e⟩]
    · rw [if_neg hj, if_neg (fun h => hj h.1)]
  · rename_i e
    rw [Bool.or_eq_false_iff, ltI_f, ltI_f] at e
    rw [if_neg]
    rintro ⟨rfl, h⟩
    omega
/-- What laying all parents of x does. -/
theorem rlxs_get {n : Nat} {d : Int} (hd : 0 ≤ d) : ∀ (qs : List Int) (o : List Int), o.length = n → (∀ v ∈ qs, 0 ≤ v ∧ v.toNat < n) →
    ∀ j, ((rlxs o d qs).getD j 0 = o.getD j 0 ∨ ((j : Int) ∈ qs ∧ (rlxs o d qs).getD j 0 = d ∧ (o.getD j 0 < 0 ∨ d < o.getD j 0))) ∧ ((j : Int) ∈ qs → 0 ≤ (rlxs o d qs).getD j 0 ∧ (rlxs o d qs).getD j 0 ≤ d)
  | [], o, _, _, j => ⟨.inl rfl, fun h => by simp at h⟩
  | q :: qs, o, hl, hq, j => by
    obtain ⟨h0, h1⟩ := hq q List.mem_cons_self
    have ih := rlxs_get hd qs (rlx o d q) (by rw [rlx_len, hl]) (fun v hv => hq v (List.mem_cons_of_mem _ hv)) j
    have e := rlx_get (d := d) h0 (by rw [hl]; exact h1) j
    change ((rlxs (rlx o d q) d qs).getD j 0 = o.getD j 0 ∨ ((j : Int) ∈ q :: qs ∧ (rlxs (rlx o d q) d qs).getD j 0 = d ∧ _)) ∧ ((j : Int) ∈ q :: qs → 0 ≤ (rlxs (rlx o d q) d qs).getD j 0 ∧ (rlxs (rlx o d q) d qs).getD j 0 ≤ d)
    obtain ⟨i1, i2⟩ := ih
    generalize (rlxs (rlx o d q) d qs).getD j 0 = R at i1 i2 ⊢
    by_cases hj : q.toNat = j
    · have hm : (j : Int) ∈ q :: qs := by rw [show (j : Int) = q by omega]; exact List.mem_cons_self
      by_cases hc : o.getD j 0 < 0 ∨ d < o.getD j 0
      · rw [if_pos ⟨hj, hc⟩] at e
        rw [e] at i1
        have : R = d := by rcases i1 with i1 | i1 <;> omega
        exact ⟨.inr ⟨hm, this, hc⟩, fun _ => by omega⟩
      · rw [if_neg (fun h => hc h.2)] at e
        rw [e] at i1
        have hR : R = o.getD j 0 := by rcases i1 with i1 | ⟨_, _, i1⟩; exact i1; exact absurd i1 hc
        exact ⟨.inl hR, fun _ => by omega⟩
    · rw [if_neg (fun h => hj h.1)] at e
      rw [e] at i1
      have hne : (j : Int) ≠ q := by omega
      refine ⟨?_, fun h => i2 ?_⟩
      · rcases i1 with i1 | ⟨h, i1⟩
        · exact .inl i1
        · exact .inr ⟨List.mem_cons_of_mem _ h, i1⟩
      · rcases List.mem_cons.1 h with h | h
        · exact absurd h hne
        · exact h
theorem kn_in {ps : List Per} (hp : parsIn ps) {x : Nat} (h : x < ps.length) : ∀ v ∈ known ps[x], 0 ≤ v ∧ v.toNat < x := fun v hv => by
  obtain ⟨r, rfl, hr⟩ := (known_pa hp h).1 hv
  have := isPa_lt hp hr
  omega
theorem UpInv.step {ps : List Per} (hp : parsIn ps) {p x : Nat} {o : List Int} (hx : x < ps.length) (h : UpInv ps p (x + 1) o) : UpInv ps p x (relax ps o x) := by
  have hl : (relax ps o x).length = ps.length := by rw [relax_len, h.len]
  unfold relax at hl ⊢
  split at hl
  · rename_i hneg
    rw [ltI_t] at hneg
    refine ⟨h.len, h.own, h.real, fun y hy hyl hy0 => ?_⟩
    rcases Nat.lt_or_ge x y with h1 | h1
    · exact h.done y h1 hyl hy0
    · have : y = x := by omega
      subst this; omega
  · rename_i hpos
    rw [ltI_f] at hpos
    rw [List.getElem?_eq_getElem hx] at hl ⊢
    have hk := kn_in hp hx
    have g := rlxs_get (n := ps.length) (d := o.getD x 0 + 1) (by omega) (known ps[x]) o h.len (fun v hv => ⟨(hk v hv).1, by have := (hk v hv).2; omega⟩)
    have hsame : ∀ j, x ≤ j → (rlxs o (o.getD x 0 + 1) (known ps[x])).getD j 0 = o.getD j 0 := fun j hj => by
      rcases (g j).1 with e | ⟨e, _⟩
      · exact e
      · have := hk _ e; omega
    have hupx : UpN ps (o.getD x 0).toNat p x := by
      rcases h.real x hx with e | e
      · omega
      · exact e.2
    refine ⟨hl, ?_, ?_, ?_⟩
    · rcases (g p).1 with e | ⟨_, e, e2⟩
      · rw [e]; exact h.own
      · rw [h.own] at e2; omega
    · intro q hq
      rcases (g q).1 with e | ⟨hm, e, _⟩
      · show (rlxs o (o.getD x 0 + 1) (known ps[x])).getD q 0 = -1 ∨ _
        rw [e]; exact h.real q hq
      · right
        show 0 ≤ (rlxs o (o.getD x 0 + 1) (known ps[x])).getD q 0 ∧ _
        rw [e]
        obtain ⟨r, hr, hpa⟩ := (known_pa hp hx).1 hm
        have hqr : q = r := by omega
        subst hqr
        refine ⟨by omega, ?_⟩
        have := hupx.snoc hpa
        rwa [show (o.getD x 0 + 1).toNat = (o.getD x 0).toNat + 1 by omega]
    · intro y hy hyl hy0 r hr
      show 0 ≤ (rlxs o (o.getD x 0 + 1) (known ps[x])).getD r 0 ∧ (rlxs o (o.getD x 0 + 1) (known ps[x])).getD r 0 ≤ (rlxs o (o.getD x 0 + 1) (known ps[x])).getD y 0 + 1
      have hy0' : 0 ≤ o.getD y 0 := by rw [← hsame y hy]; exact hy0
      rw [hsame y hy]
      rcases Nat.lt_or_ge x y with h1 | h1
      · obtain ⟨d1, d2⟩ := h.done y h1 hyl hy0' r hr
        rcases (g r).1 with e | ⟨hm, e, e2⟩
        · rw [e]; exact ⟨d1, d2⟩
        · rw [e]; omega
      · have : y = x := by omega
        subst this
        exact (g r).2 ((known_pa hp hx).2 ⟨r, rfl, hr⟩)
theorem upTo_inv {ps : List Per} (hp : parsIn ps) {p : Nat} (h : p < ps.length) : ∀ j, j ≤ ps.length → UpInv ps p (ps.length - j) (upTo ps p j)
  | 0, _ => by
    have hl : p < (List.replicate ps.length (-1 : Int)).length := by simp [h]
    refine ⟨upTo_len ps p 0, ?_, ?_, fun y hy hyl => by omega⟩
    · show ((List.replicate ps.length (-1 : Int)).set p 0).getD p 0 = 0
      rw [getD_set hl, if_pos rfl]
    · intro q hq
      show ((List.replicate ps.length (-1 : Int)).set p 0).getD q 0 = -1 ∨ (0 ≤ ((List.replicate ps.length (-1 : Int)).set p 0).getD q 0 ∧ UpN ps (((List.replicate ps.length (-1 : Int)).set p 0).getD q 0).toNat p q)
      rw [getD_set hl]
      split
      · rename_i e; subst e; exact .inr ⟨by omega, .zero p⟩
      · left; simp [List.getD_eq_getElem?_getD, List.getElem?_replicate, hq]
  | j + 1, hj => by
    have := upTo_inv hp h j (by omega)
    rw [show ps.length - j = (ps.length - 1 - j) + 1 by omega] at this
    rw [show ps.length - (j + 1) = ps.length - 1 - j by omega]
    exact this.step hp (by omega)
theorem upS_len (ps : List Per) (p : Nat) : (upS ps p).length = ps.length := upTo_len ps p _
theorem upS_least {ps : List Per} (hp : parsIn ps) {p q : Nat} (h : p < ps.length) (hq : q < ps.length) : isLeast ps p q ((upS ps p).getD q 0) := by
  have inv := upTo_inv hp h ps.length (Nat.le_refl _)
  rw [Nat.sub_self] at inv
  refine ⟨fun n => ?_, inv.real q hq⟩
  show UpN ps n p q → _
  unfold upS
  induction n generalizing q with
  | zero =>
    intro hu
    cases hu
    rw [inv.own]; simp
  | succ n ih =>
    intro hu
    obtain ⟨x, hx, hpa⟩ := hu.last
    have i := ih hpa.1 hx
    have := inv.done x (Nat.zero_le _) hpa.1 i.1 q hpa
    push_cast
    omega
/-- So many steps up; -1 if there are none. -/
def upd (ps : List Per) (p q : Nat) : Int := (upS ps p).getD q 0

/-! ### As the program reckons them -/
def clRow (row pr : List Int) : List Int := List.zipWith (fun a b => minI a (b + 1)) row pr
def clRow0 (up : List (List Int)) (n k : Nat) (qs : List Int) : List Int := qs.foldl (fun row x => clRow row (up.getD x.toNat [])) (List.replicate n 11)
def clTo (ps : List Per) : Nat → List (List Int)
  | 0 => []
  | k + 1 => clTo ps k ++ [(clRow0 (clTo ps k) ps.length k (match ps[k]? with | some p => known p | none => [])).set k 0]
def clT (ps : List Per) : List (List Int) := clTo ps ps.length
def tooF (m : Int) : Int := match ltI m 0 with | true => 11 | false => m
theorem clTo_len (ps : List Per) : ∀ k, (clTo ps k).length = k
  | 0 => rfl
  | k + 1 => by simp [clTo, clTo_len ps k]
theorem clRow_get {row pr : List Int} {j : Nat} (h1 : j < row.length) (h2 : j < pr.length) : (clRow row pr).getD j 0 = minI (row.getD j 0) (pr.getD j 0 + 1) := by
  unfold clRow
  simp [List.getD_eq_getElem?_getD, List.getElem?_zipWith, h1, h2]
theorem clRow_len {row pr : List Int} {n : Nat} (h1 : row.length = n) (h2 : pr.length = n) : (clRow row pr).length = n := by
  unfold clRow; simp [List.length_zipWith, h1, h2]
theorem minI_le_left (a b : Int) : minI a b ≤ a := by unfold minI; split <;> omega
theorem minI_le_right (a b : Int) : minI a b ≤ b := by unfold minI; split <;> omega
theorem minI_cases (a b : Int) : minI a b = a ∨ minI a b = b := by unfold minI; split <;> simp
/-- What is known of a row of the table. -/
def rowGood (ps : List Per) (k : Nat) (row : List Int) : Prop := row.length = ps.length ∧ ∀ q, q < ps.length → row.getD q 0 = tooF (upd ps k q)
/-- What taking the lesser ones over all parents gives. -/
theorem clFold {up : List (List Int)} {n j : Nat} (hj : j < n) : ∀ (qs : List Int) (row : List Int), row.length = n → (∀ x ∈ qs, (up.getD x.toNat []).length = n) →
    (qs.foldl (fun row x => clRow row (up.getD x.toNat [])) row).length = n ∧
    (qs.foldl (fun row x => clRow row (up.getD x.toNat [])) row).getD j 0 ≤ row.getD j 0 ∧
    (∀ x ∈ qs, (qs.foldl (fun row x => clRow row (up.getD x.toNat [])) row).getD j 0 ≤ (up.getD x.toNat []).getD j 0 + 1) ∧
    ((qs.foldl (fun row x => clRow row (up.getD x.toNat [])) row).getD j 0 = row.getD j 0 ∨ ∃ x ∈ qs, (qs.foldl (fun row x => clRow row (up.getD x.toNat [])) row).getD j 0 = (up.getD x.toNat []).getD j 0 + 1)
  | [], row, hl, _ => ⟨hl, Int.le_refl _, fun _ h => by simp at h, .inl rfl⟩
  | x :: qs, row, hl, hq => by
    have hx := hq x List.mem_cons_self
    obtain ⟨i1, i2, i3, i4⟩ := clFold hj qs (clRow row (up.getD x.toNat [])) (clRow_len hl hx) (fun y hy => hq y (List.mem_cons_of_mem _ hy))
    have e := clRow_get (row := row) (pr := up.getD x.toNat []) (j := j) (by omega) (by omega)
    have l1 := minI_le_left (row.getD j 0) ((up.getD x.toNat []).getD j 0 + 1)
    have l2 := minI_le_right (row.getD j 0) ((up.getD x.toNat []).getD j 0 + 1)
    have l3 := minI_cases (row.getD j 0) ((up.getD x.toNat []).getD j 0 + 1)
    show (qs.foldl _ (clRow row (up.getD x.toNat []))).length = n ∧ (qs.foldl _ (clRow row (up.getD x.toNat []))).getD j 0 ≤ row.getD j 0 ∧
      (∀ y ∈ x :: qs, (qs.foldl _ (clRow row (up.getD x.toNat []))).getD j 0 ≤ (up.getD y.toNat []).getD j 0 + 1) ∧
      ((qs.foldl _ (clRow row (up.getD x.toNat []))).getD j 0 = row.getD j 0 ∨ ∃ y ∈ x :: qs, (qs.foldl _ (clRow row (up.getD x.toNat []))).getD j 0 = (up.getD y.toNat []).getD j 0 + 1)
    refine ⟨i1, by omega, fun y hy => ?_, ?_⟩
    · rcases List.mem_cons.1 hy with rfl | hy
      · omega
      · exact i3 y hy
    · rcases i4 with i4 | ⟨y, hy, i4⟩
      · rcases l3 with l3 | l3
        · left; rw [i4, e, l3]
        · right; exact ⟨x, List.mem_cons_self, by rw [i4, e, l3]⟩
      · exact .inr ⟨y, List.mem_cons_of_mem _ hy, i4⟩
theorem tooF_neg {m : Int} (h : m < 0) : tooF m = 11 := by unfold tooF; rw [ltI_t.2 h]
theorem tooF_pos {m : Int} (h : 0 ≤ m) : tooF m = m := by unfold tooF; rw [ltI_f.2 (by omega)]
theorem upd_least {ps : List Per} (hp : parsIn ps) {p q : Nat} (h : p < ps.length) (hq : q < ps.length) : isLeast ps p q (upd ps p q) := upS_least hp h hq
theorem upd_small {ps : List Per} (hp : parsIn ps) (hs : shallow (depths ps) = true) {p q : Nat} (h : p < ps.length) (hq : q < ps.length) : -1 ≤ upd ps p q ∧ upd ps p q ≤ 10 := by
  have hl := upd_least hp h hq
  refine ⟨hl.range, ?_⟩
  rcases hl.2 with h2 | ⟨h2, h3⟩
  · omega
  · have := h3.small hp hs; omega
theorem clTo_get (ps : List Per) {i k : Nat} (h : i < k) : ∀ n, k ≤ n → (clTo ps n).getD i [] = (clTo ps k).getD i [] := by
  intro n hn
  induction n with
  | zero => omega
  | succ n ih =>
    rcases Nat.lt_or_ge n k with h1 | h1
    · have : k = n + 1 := by omega
      subst this; rfl
    · have e := ih h1
      rw [← e]
      simp only [clTo, List.getD_eq_getElem?_getD]
      rw [List.getElem?_append_left (by rw [clTo_len]; omega)]
theorem clTo_at {ps : List Per} {k : Nat} (h : k < ps.length) : (clTo ps (k + 1)).getD k [] = (clRow0 (clTo ps k) ps.length k (known ps[k])).set k 0 := by
  simp only [clTo, List.getD_eq_getElem?_getD]
  rw [List.getElem?_append_right (by rw [clTo_len]; exact Nat.le_refl _), clTo_len, Nat.sub_self, List.getElem?_eq_getElem h]
  rfl
theorem cl_good {ps : List Per} (hp : parsIn ps) (hs : shallow (depths ps) = true) : ∀ k, k ≤ ps.length → ∀ i, i < k → rowGood ps i ((clTo ps k).getD i []) := by
  intro k
  induction k with
  | zero => intro _ i h; omega
  | succ k ih =>
    intro hk i hi
    rcases Nat.lt_or_ge i k with h1 | h1
    · rw [clTo_get ps h1 (k + 1) (by omega)]; exact ih (by omega) i h1
    · have : i = k := by omega
      subst this
      have hlt : i < ps.length := by omega
      rw [clTo_at hlt]
      have hk := kn_in hp hlt
      have hrow : ∀ x ∈ known ps[i], rowGood ps x.toNat ((clTo ps i).getD x.toNat []) := fun x hx => ih (by omega) _ (hk x hx).2
      have hlen : (clRow0 (clTo ps i) ps.length i (known ps[i])).length = ps.length := by
        have := clFold (up := clTo ps i) (n := ps.length) (j := i) hlt (known ps[i]) (List.replicate ps.length 11) (by simp) (fun x hx => (hrow x hx).1)
        exact this.1
      refine ⟨by rw [List.length_set]; exact hlen, fun q hq => ?_⟩
      rw [getD_set (by rw [hlen]; exact hlt)]
      split
      · rename_i e
        subst e
        rw [(upd_least hp hlt hlt).zero.2 rfl, tooF_pos (Int.le_refl 0)]
      · rename_i hne
        obtain ⟨_, c1, c2, c3⟩ := clFold (up := clTo ps i) (n := ps.length) (j := q) hq (known ps[i]) (List.replicate ps.length 11) (by simp) (fun x hx => (hrow x hx).1)
        have e11 : (List.replicate ps.length (11 : Int)).getD q 0 = 11 := by simp [List.getD_eq_getElem?_getD, List.getElem?_replicate, hq]
        rw [e11] at c1 c3
        change (clRow0 (clTo ps i) ps.length i (known ps[i])).getD q 0 ≤ 11 at c1
        change (clRow0 (clTo ps i) ps.length i (known ps[i])).getD q 0 = 11 ∨ ∃ x ∈ known ps[i], (clRow0 (clTo ps i) ps.length i (known ps[i])).getD q 0 = _ at c3
        have c2' : ∀ x ∈ known ps[i], (clRow0 (clTo ps i) ps.length i (known ps[i])).getD q 0 ≤ tooF (upd ps x.toNat q) + 1 := fun x hx => by
          rw [← (hrow x hx).2 q hq]; exact c2 x hx
        have c3' : (clRow0 (clTo ps i) ps.length i (known ps[i])).getD q 0 = 11 ∨ ∃ x ∈ known ps[i], (clRow0 (clTo ps i) ps.length i (known ps[i])).getD q 0 = tooF (upd ps x.toNat q) + 1 := by
          rcases c3 with c3 | ⟨x, hx, c3⟩
          · exact .inl c3
          · exact .inr ⟨x, hx, by rw [c3, (hrow x hx).2 q hq]⟩
        generalize (clRow0 (clTo ps i) ps.length i (known ps[i])).getD q 0 = v at c1 c2' c3'
        have L := upd_least hp hlt hq
        have Ls := upd_small hp hs hlt hq
        generalize upd ps i q = m at L Ls
        -- a way from a parent
        have way : ∀ x ∈ known ps[i], 0 ≤ upd ps x.toNat q → 0 ≤ m ∧ m ≤ upd ps x.toNat q + 1 := fun x hx h0 => by
          have hx2 := hk x hx
          have Lx := upd_least hp (p := x.toNat) (q := q) (by omega) hq
          rcases Lx.2 with e | ⟨_, hu⟩
          · omega
          · obtain ⟨r, hr, hpa⟩ := (known_pa hp hlt).1 hx
            have e : x.toNat = r := by omega
            rw [e] at hu h0 ⊢
            have := L.1 _ (.step hpa hu)
            omega
        rcases L.2 with hm | ⟨hm, hu⟩
        · rw [tooF_neg (by omega)]
          rcases c3' with e | ⟨x, hx, e⟩
          · exact e
          · rcases Int.lt_or_le (upd ps x.toNat q) 0 with h0 | h0
            · rw [tooF_neg h0] at e; omega
            · have := way x hx h0; omega
        · rw [tooF_pos hm]
          have hm0 : m ≠ 0 := fun e => hne (L.zero.1 e)
          obtain ⟨j, hj⟩ : ∃ j, m.toNat = j + 1 := ⟨m.toNat - 1, by omega⟩
          rw [hj] at hu
          cases hu with
          | step hpa hu =>
            rename_i r
            have hr := isPa_lt hp hpa
            have hx : (r : Int) ∈ known ps[i] := (known_pa hp hlt).2 ⟨r, rfl, hpa⟩
            have Lr := (upd_least hp (p := r) (q := q) (by omega) hq).1 _ hu
            have w := way _ hx (by simpa using Lr.1)
            have b := c2' _ hx
            simp only [Int.toNat_natCast] at w b
            rw [tooF_pos Lr.1] at b
            rcases c3' with e | ⟨x, hx, e⟩
            · omega
            · rcases Int.lt_or_le (upd ps x.toNat q) 0 with h0 | h0
              · rw [tooF_neg h0] at e; omega
              · have := way x hx h0
                rw [tooF_pos h0] at e; omega
theorem clT_good {ps : List Per} (hp : parsIn ps) (hs : shallow (depths ps) = true) {p : Nat} (h : p < ps.length) : rowGood ps p ((clT ps).getD p []) := cl_good hp hs _ (Nat.le_refl _) _ h
theorem clT_get {ps : List Per} (hp : parsIn ps) (hs : shallow (depths ps) = true) {p : Nat} (h : p < ps.length) : (clT ps)[p]? = some ((upS ps p).map tooF) := by
  have hl : p < (clT ps).length := by unfold clT; rw [clTo_len]; exact h
  have g := clT_good hp hs h
  rw [List.getD_eq_getElem?_getD, List.getElem?_eq_getElem hl] at g
  rw [List.getElem?_eq_getElem hl]
  refine congrArg some ?_
  change rowGood ps p (clT ps)[p] at g
  refine List.ext_getElem (by rw [g.1, List.length_map, upS_len]) fun q h1 h2 => ?_
  have hq : q < ps.length := by rw [← g.1]; exact h1
  have := g.2 q hq
  rw [List.getD_eq_getElem?_getD, List.getElem?_eq_getElem h1] at this
  have h3 : q < (upS ps p).length := by rw [upS_len]; exact hq
  rw [List.getElem_map]
  have e : upd ps p q = (upS ps p)[q] := by unfold upd; rw [List.getD_eq_getElem?_getD, List.getElem?_eq_getElem h3]; rfl
  rw [← e]; exact this
end Go.Proofs.Ytgkjafmmekjjlaa


namespace Go.Proofs.Ytgkjafmmekjjlaa
open Go.Lg
set_option maxHeartbeats 800000
set_option linter.unusedVariables false
set_option linter.unusedSimpArgs false

/-! ### Fractions in their lowest terms -/
def rdc : Nat → Nat → Nat × Nat
  | n, 0 => (n, 0)
  | n, e + 1 => if n % 2 = 0 then rdc (n / 2) e else (n, e + 1)
/-- So many parts in lowest terms. -/
def rd (v : Nat) : Nat × Nat := rdc v 30
end Go.Proofs.Ytgkjafmmekjjlaa


namespace Go.Proofs.Ytgkjafmmekjjlaa
open Go.Lg
set_option maxHeartbeats 800000
set_option linter.unusedVariables false
set_option linter.unusedSimpArgs false

/-! ### Kinship in parts -/
def wholeN : Nat := 1073741824
/-- The kinship of two persons, out of rows in which each one stands with those before. -/
def kAt (T : List (List Nat)) (x y : Nat) : Nat := (T.getD (max x y) []).getD (min x y) 0
def kSum (T : List (List Nat)) (b : Nat) (qs : List Int) : Nat := (qs.map fun q => kAt T q.toNat b / 2).sum
def kPar (T : List (List Nat)) (p : Per) : Nat := match eqI p.father (-1) || eqI p.mother (-1) with | true => 0 | false => kAt T p.father.toNat p.mother.toNat
def kRow (T : List (List Nat)) (k : Nat) (p : Per) : List Nat := ((List.range k).map fun b => kSum T b (known p)) ++ [wholeN / 2 + kPar T p / 2]
def kTo (ps : List Per) : Nat → List (List Nat)
  | 0 => []
  | k + 1 => kTo ps k ++ [match ps[k]? with | some p => kRow (kTo ps k) k p | none => []]
/-- What is known of the first k rows: kinships are whole numbers of parts as long as nobody is too deep, and at most a whole. -/
structure KInv (ps : List Per) (k : Nat) : Prop where
  dvd : ∀ a b, a < k → b < k → 2 ^ (29 - (dpt ps a).toNat - (dpt ps b).toNat) ∣ kAt (kTo ps k) a b
  le : ∀ a b, a < k → b < k → kAt (kTo ps k) a b ≤ wholeN
theorem known_two (p : Per) : (known p).length ≤ 2 := by
  unfold known; exact Nat.le_trans (List.length_filter_le _ _) (by simp)
end Go.Proofs.Ytgkjafmmekjjlaa


namespace Go.Proofs.Ytgkjafmmekjjlaa
open Go.Lg
set_option maxHeartbeats 3200000
set_option maxRecDepth 10000
set_option linter.unusedVariables false
set_option linter.unusedSimpArgs false

/-! ### The table of least steps -/
/-- The rows that are ready, nothing behind them. -/
def upRow (ps : List Per) (k : Nat) : List LV := (clTo ps k).map rowSl ++ List.replicate (ps.length - k) .nil
theorem upRow_len {ps : List Per} {k : Nat} (h : k ≤ ps.length) : (upRow ps k).length = ps.length := by
  simp [upRow, clTo_len]; omega
theorem upRow_at {ps : List Per} {k : Nat} (h : k < ps.length) : (upRow ps k)[k]? = some .nil := by
  unfold upRow
  rw [List.getElem?_append_right (by simp [clTo_len]), List.length_map, clTo_len, Nat.sub_self, List.getElem?_replicate, if_pos (by omega)]
/-- The rows while one is being made. -/
def curRow (ps : List Per) (k : Nat) (R : List Int) : List LV := (clTo ps k).map rowSl ++ rowOw R :: List.replicate (ps.length - k - 1) .nil
theorem cl_mlen (ps : List Per) (k : Nat) : ((clTo ps k).map rowSl).length = k := by rw [List.length_map, clTo_len]
theorem curRow_len {ps : List Per} {k : Nat} {R : List Int} (h : k < ps.length) : (curRow ps k R).length = ps.length := by
  simp [curRow, clTo_len]; omega
theorem curRow_at (ps : List Per) (k : Nat) (R : List Int) : (curRow ps k R)[k]? = some (rowOw R) := by
  unfold curRow
  rw [List.getElem?_append_right (by rw [cl_mlen]; exact Nat.le_refl _), cl_mlen, Nat.sub_self]; rfl
theorem curRow_lt {ps : List Per} {k i : Nat} {R : List Int} (h : i < k) : (curRow ps k R)[i]? = some (rowSl ((clTo ps k).getD i [])) := by
  have hl : i < (clTo ps k).length := by rw [clTo_len]; exact h
  unfold curRow
  rw [List.getElem?_append_left (by simpa using hl), List.getElem?_map, List.getD_eq_getElem?_getD, List.getElem?_eq_getElem hl]; rfl
theorem upRow_set {ps : List Per} {k : Nat} (h : k < ps.length) (R : List Int) : (upRow ps k).set k (rowOw R) = curRow ps k R := by
  unfold upRow curRow
  rw [List.set_append_right _ _ (by rw [cl_mlen]; exact Nat.le_refl _), cl_mlen, Nat.sub_self, show ps.length - k = (ps.length - k - 1) + 1 by omega, List.replicate_succ, List.set_cons_zero]
  rfl
theorem curRow_set (ps : List Per) (k : Nat) (R : List Int) (y : LV) : (curRow ps k R).set k y = (clTo ps k).map rowSl ++ y :: List.replicate (ps.length - k - 1) .nil := by
  unfold curRow
  rw [List.set_append_right _ _ (by rw [cl_mlen]; exact Nat.le_refl _), cl_mlen, Nat.sub_self, List.set_cons_zero]
theorem curRow_fz {ps : List Per} {k : Nat} (h : k < ps.length) {R : List Int} (e : R = (clRow0 (clTo ps k) ps.length k (known ps[k])).set k 0) : (clTo ps k).map rowSl ++ rowSl R :: List.replicate (ps.length - k - 1) .nil = upRow ps (k + 1) := by
  unfold upRow
  have : clTo ps (k + 1) = clTo ps k ++ [R] := by rw [clTo, List.getElem?_eq_getElem h, e]
  rw [this, List.map_append, List.append_assoc, show ps.length - k - 1 = ps.length - (k + 1) by omega]
  rfl
/-- The row behind so many parents. -/
def clP (up : List (List Int)) (n : Nat) (qs : List Int) (j : Nat) : List Int := (qs.take j).foldl (fun row x => clRow row (up.getD x.toNat [])) (List.replicate n 11)
theorem clP_succ {up : List (List Int)} {n : Nat} {qs : List Int} {j : Nat} (h : j < qs.length) : clP up n qs (j + 1) = clRow (clP up n qs j) (up.getD qs[j].toNat []) := by
  unfold clP; rw [List.take_succ_eq_append_getElem h, List.foldl_append]; rfl
theorem clP_len {up : List (List Int)} {n : Nat} {qs : List Int} (h : ∀ x ∈ qs, (up.getD x.toNat []).length = n) : ∀ j, j ≤ qs.length → (clP up n qs j).length = n
  | 0, _ => by simp [clP]
  | j + 1, hj => by
    rw [clP_succ (by omega)]
    exact clRow_len (clP_len h j (by omega)) (h _ (List.getElem_mem _))
theorem intL_at {g : List Int} {i : Nat} (h : i < g.length) : (g.map intLV)[i]? = some (intLV (g.getD i 0)) := by
  rw [List.getElem?_map, List.getElem?_eq_getElem h, List.getD_eq_getElem?_getD, List.getElem?_eq_getElem h]; rfl
/-- The row behind so many persons. -/
def clQ (row pr : List Int) (q : Nat) : List Int := (clRow row pr).take q ++ row.drop q
theorem clQ_len {row pr : List Int} {n q : Nat} (h1 : row.length = n) (h2 : pr.length = n) (hq : q ≤ n) : (clQ row pr q).length = n := by
  unfold clQ; simp [clRow_len h1 h2, h1]; omega
theorem clQ_all {row pr : List Int} {n : Nat} (h1 : row.length = n) (h2 : pr.length = n) : clQ row pr n = clRow row pr := by
  unfold clQ; rw [List.take_of_length_le (by rw [clRow_len h1 h2]; exact Nat.le_refl _), List.drop_eq_nil_of_le (by omega), List.append_nil]
theorem clQ_at {row pr : List Int} {n q : Nat} (h1 : row.length = n) (h2 : pr.length = n) (hq : q < n) : (clQ row pr q).getD q 0 = row.getD q 0 := by
  have hl := clRow_len h1 h2
  unfold clQ
  simp only [List.getD_eq_getElem?_getD]
  rw [List.getElem?_append_right (by rw [List.length_take, hl]; omega), List.length_take, hl, Nat.min_eq_left (by omega), Nat.sub_self, List.getElem?_drop, Nat.add_zero]
theorem clQ_set {row pr : List Int} {n q : Nat} (h1 : row.length = n) (h2 : pr.length = n) (hq : q < n) : (clQ row pr q).set q (minI (row.getD q 0) (pr.getD q 0 + 1)) = clQ row pr (q + 1) := by
  have hl := clRow_len h1 h2
  have hg : (clRow row pr)[q]? = some (minI (row.getD q 0) (pr.getD q 0 + 1)) := by
    have := clRow_get (row := row) (pr := pr) (j := q) (by omega) (by omega)
    rw [← this, List.getD_eq_getElem?_getD, List.getElem?_eq_getElem (by omega)]; rfl
  unfold clQ
  rw [List.set_append_right _ _ (by rw [List.length_take, hl]; omega), List.length_take, hl, Nat.min_eq_left (by omega), Nat.sub_self, List.drop_eq_getElem_cons (by omega), List.set_cons_zero,
    List.take_add_one, hg, List.append_assoc]
  rfl
theorem cl_bound {ps : List Per} (hp : parsIn ps) (hs : shallow (depths ps) = true) {k i q : Nat} (hk : k ≤ ps.length) (hi : i < k) (hq : q < ps.length) : 0 ≤ ((clTo ps k).getD i []).getD q 0 ∧ ((clTo ps k).getD i []).getD q 0 ≤ 11 := by
  rw [(cl_good hp hs k hk i hi).2 q hq]
  have := upd_small hp hs (p := i) (q := q) (by omega) hq
  unfold tooF
  split
  · omega
  · rename_i h; rw [ltI_f] at h; omega
theorem climbs_h (ps : List Per) (us : List Uni) (hl : ps.length ≤ 40) (hp : parsIn ps) (hs : shallow (depths ps) = true) :
    HSpec env.P 113 [famLV ps us] [] (.hs 0 ((clT ps).map rowSl).length) [.tree 27 1 ((clT ps).map rowSl)] := by
  refine HSpec_of_code (E := env.x [140] 0) env_ok.x (fn := Try.f113) Try.func113 rfl Try.call113 _ _ _ _ ?_
  have hP : (ps.map Per.lv).length = ps.length := List.length_map ..
  have hp' : ps.length ≤ Go.maxLen := by unfold Go.maxLen; omega
  ((repeat ((conv => whnf); first | refine brT ?_ | refine brF ?_)); conv => whnf)
  intro _
  ((repeat ((conv => whnf); first | refine brT ?_ | refine brF ?_)); conv => whnf)
  refine ⟨ps.length, by rw [hP], by rw [hP], by show 24 * ps.length ≤ _; omega, hp', rfl, by decide, ?_⟩
  ((repeat ((conv => whnf); first | refine brT ?_ | refine brF ?_)); conv => whnf)
  intro _
  ((repeat ((conv => whnf); first | refine brT ?_ | refine brF ?_)); conv => whnf)
  rw [hP]
  refine loop_ruleR (α := Nat) [.old 0, .old 1] (fun k => [(17, .int .i64 (k : Int))]) (fun k => [.box (famLV ps us), .tree 27 1 (upRow ps k)]) (fun k => ps.length - k) (fun k => k ≤ ps.length) 0 (Nat.zero_le _) ?_ ?_
  · refine ⟨?_, ⟨rfl, rfl, rfl, congrArg (Blk.tree 27 1) (by simp [upRow, clTo]), trivial⟩, rfl⟩
    ((repeat ((conv => whnf); refine ⟨rfl, rfl, ?_⟩)); trivial)
  intro k hk
  generalize hK : kk _ = KK
  ((repeat ((conv => whnf); first | refine brT ?_ | refine brF ?_)); conv => whnf)
  (refine ⟨fun g1 => ?_, fun g1 => ?_⟩ <;> rw [g1])
  · have hlt : k < ps.length := by rw [ltI_t] at g1; omega
    have e := step_i hlt hp'
    ((repeat ((conv => whnf); first | refine brT ?_ | refine brF ?_)); conv => whnf)
    refine ⟨k, ps[k].lv, rfl, by simp [hlt], rfl, ?_⟩
    ((repeat ((conv => whnf); first | refine brT ?_ | refine brF ?_)); conv => whnf)
    intro _
    ((repeat ((conv => whnf); first | refine brT ?_ | refine brF ?_)); conv => whnf)
    rw [hP]
    have hrep := repeat_h 11 ps.length (by omega) hl
    rw [show List.replicate ps.length (LV.int .i64 11) = (List.replicate ps.length 11).map intLV by simp [intLV]] at hrep
    refine ⟨[], _, _, _, _, hrep, rfl, ?_⟩
    ((repeat ((conv => whnf); first | refine brT ?_ | refine brF ?_)); conv => whnf)
    refine ⟨rfl, ?_⟩
    ((repeat ((conv => whnf); first | refine brT ?_ | refine brF ?_)); conv => whnf)
    refine ⟨rfl, rfl, ⟨rfl, flats_ints _, trivial⟩, ?_⟩
    ((repeat ((conv => whnf); first | refine brT ?_ | refine brF ?_)); conv => whnf)
    refine ⟨(upRow_len hk).symm, rfl, k, rfl, by rw [upRow_len hk]; exact hlt, ?_⟩
    ((repeat ((conv => whnf); first | refine brT ?_ | refine brF ?_)); conv => whnf)
    refine ⟨by simp, (upRow_len hk).symm, rfl, .nil, .nil, curRow ps k (List.replicate ps.length 11), upRow_at hlt, rfl, rfl, upRow_set hlt _, ?_⟩
    ((repeat ((conv => whnf); first | refine brT ?_ | refine brF ?_)); conv => whnf)
    refine ⟨_, knownParents_spec ps[k], ?_⟩
    ((repeat ((conv => whnf); first | refine brT ?_ | refine brF ?_)); conv => whnf)
    intro _
    ((repeat ((conv => whnf); first | refine brT ?_ | refine brF ?_)); conv => whnf)
    have hkn := kn_in hp hlt
    have hgood := fun i (hi : i < k) => (cl_good hp hs k hk i hi).1
    generalize hqs : known ps[k] = qs at hkn
    have hq2 : qs.length ≤ 2 := by rw [← hqs]; exact known_two _
    have hQ : (qs.map intLV).length = qs.length := List.length_map ..
    rw [hQ]
    refine loop_ruleR (α := Nat) [.old 0, .old 1, .old 2, .old 3, .old 4] (fun j => [(33, .int .i64 (j : Int))])
      (fun j => [.box (famLV ps us), .tree 27 1 (curRow ps k (clP (clTo ps k) ps.length qs j)), .box ps[k].lv, .arr 3 1 [.int .i64 11], .dead]) (fun j => qs.length - j) (fun j => j ≤ qs.length) 0 (Nat.zero_le _) ?_ ?_
    · refine ⟨?_, ⟨rfl, rfl, rfl, rfl, rfl, rfl, rfl, rfl, rfl, rfl, trivial⟩, rfl⟩
      ((repeat ((conv => whnf); refine ⟨rfl, rfl, ?_⟩)); trivial)
    intro j hj
    generalize hK2 : kk _ = KK2
    ((repeat ((conv => whnf); first | refine brT ?_ | refine brF ?_)); conv => whnf)
    (refine ⟨fun g2 => ?_, fun g2 => ?_⟩ <;> rw [g2])
    · have hlj : j < qs.length := by rw [ltI_t] at g2; omega
      have ej := step_i hlj (by unfold Go.maxLen; omega)
      obtain ⟨x0, x1⟩ := hkn qs[j] (List.getElem_mem hlj)
      have hcl := clP_len (up := clTo ps k) (n := ps.length) (qs := qs) (fun x hx => hgood _ (hkn x hx).2) j (by omega)
      have hg2 := hgood _ x1
      generalize hR : clP (clTo ps k) ps.length qs j = R at hcl
      generalize hPr : (clTo ps k).getD qs[j].toNat [] = Pr at hg2
      have hPrL : (Pr.map intLV).length = ps.length := by rw [List.length_map, hg2]
      ((repeat ((conv => whnf); first | refine brT ?_ | refine brF ?_)); conv => whnf)
      refine ⟨j, intLV qs[j], rfl, by simp [hlj], rfl, ?_⟩
      ((repeat ((conv => whnf); first | refine brT ?_ | refine brF ?_)); conv => whnf)
      refine ⟨(curRow_len hlt).symm, rfl, qs[j].toNat, by omega, by rw [curRow_len hlt]; omega, ?_⟩
      ((repeat ((conv => whnf); first | refine brT ?_ | refine brF ?_)); conv => whnf)
      refine ⟨(curRow_len hlt).symm, rowSl Pr, .sl (Pr.map intLV), by rw [curRow_lt x1, hPr], rfl, ?_⟩
      ((repeat ((conv => whnf); first | refine brT ?_ | refine brF ?_)); conv => whnf)
      refine ⟨rfl, rfl, ?_⟩
      ((repeat ((conv => whnf); first | refine brT ?_ | refine brF ?_)); conv => whnf)
      intro _
      ((repeat ((conv => whnf); first | refine brT ?_ | refine brF ?_)); conv => whnf)
      rw [hPrL]
      refine loop_ruleR (α := Nat) [.old 0, .old 1, .old 2, .old 3, .old 4] (fun q => [(42, .int .i64 (q : Int))])
        (fun q => [.box (famLV ps us), .tree 27 1 (curRow ps k (clQ R Pr q)), .box ps[k].lv, .arr 3 1 [.int .i64 11], .dead]) (fun q => ps.length - q) (fun q => q ≤ ps.length) 0 (Nat.zero_le _) ?_ ?_
      · refine ⟨?_, ⟨rfl, rfl, rfl, rfl, rfl, rfl, rfl, rfl, rfl, rfl, trivial⟩, rfl⟩
        ((repeat ((conv => whnf); refine ⟨rfl, rfl, ?_⟩)); trivial)
      intro q hq
      generalize hK3 : kk _ = KK3
      ((repeat ((conv => whnf); first | refine brT ?_ | refine brF ?_)); conv => whnf)
      (refine ⟨fun g3 => ?_, fun g3 => ?_⟩ <;> rw [g3])
      · have hlq : q < ps.length := by rw [ltI_t] at g3; omega
        have eq := step_i hlq hp'
        have hQl := clQ_len hcl hg2 (show q ≤ ps.length by omega)
        have hQg := clQ_at hcl hg2 hlq
        have hQs := clQ_set hcl hg2 hlq
        have hPb : 0 ≤ Pr.getD q 0 ∧ Pr.getD q 0 ≤ 11 := by rw [← hPr]; exact cl_bound hp hs hk x1 hlq
        ((repeat ((conv => whnf); first | refine brT ?_ | refine brF ?_)); conv => whnf)
        refine ⟨q, intLV (Pr.getD q 0), rfl, intL_at (by omega), rfl, ?_⟩
        ((repeat ((conv => whnf); first | refine brT ?_ | refine brF ?_)); conv => whnf)
        refine ⟨false, 15, by kernel_rfl, ?_⟩
        ((repeat ((conv => whnf); first | refine brT ?_ | refine brF ?_)); conv => whnf)
        refine ⟨(curRow_len hlt).symm, rfl, k, rfl, by rw [curRow_len hlt]; exact hlt, ?_⟩
        ((repeat ((conv => whnf); first | refine brT ?_ | refine brF ?_)); conv => whnf)
        refine ⟨(curRow_len hlt).symm, rowOw (clQ R Pr q), rowOw (clQ R Pr q), curRow_at _ _ _, rfl, ?_⟩
        ((repeat ((conv => whnf); first | refine brT ?_ | refine brF ?_)); conv => whnf)
        have hSL : ∀ v : LV, ((curRow ps k (clQ R Pr q)).set k v).length = ps.length := fun v => by rw [List.length_set, curRow_len hlt]
        refine ⟨(hSL _).symm, rfl, k, rfl, by rw [hSL]; exact hlt, ?_⟩
        ((repeat ((conv => whnf); first | refine brT ?_ | refine brF ?_)); conv => whnf)
        have hSA : ((curRow ps k (clQ R Pr q)).set k (.tup []))[k]? = some (.tup []) := List.getElem?_set_self (by rw [curRow_len hlt]; exact hlt)
        refine .inl ⟨rfl, (hSL .nil).symm, hSA, rfl, ?_⟩
        ((repeat ((conv => whnf); first | refine brT ?_ | refine brF ?_)); conv => whnf)
        have hgq : getP (.st ((clQ R Pr q).map intLV)) [q] = some (intLV ((clQ R Pr q).getD q 0)) := by simp only [getP]; rw [intL_at (g := clQ R Pr q) (i := q) (by rw [hQl]; exact hlq)]
        have hRl : ((clQ R Pr q).map intLV).length = ps.length := by rw [List.length_map, hQl]
        refine ⟨rfl, rfl, q, rfl, by rw [hRl]; exact hlq, ?_⟩
        ((repeat ((conv => whnf); first | refine brT ?_ | refine brF ?_)); conv => whnf)
        refine ⟨rfl, by simp, intLV ((clQ R Pr q).getD q 0), hgq, rfl, ?_⟩
        ((repeat ((conv => whnf); first | refine brT ?_ | refine brF ?_)); conv => whnf)
        refine ⟨rfl, rfl, q, rfl, by rw [hRl]; exact hlq, ?_⟩
        ((repeat ((conv => whnf); first | refine brT ?_ | refine brF ?_)); conv => whnf)
        refine ⟨rfl, q, [], intLV ((clQ R Pr q).getD q 0), rfl, hgq, rfl, rfl, rfl, (clQ R Pr (q + 1)).map intLV, ?_, ?_⟩
        · rw [intL_at (g := clQ R Pr q) (i := q) (by rw [hQl]; exact hlq), wrap64 (by omega) (by omega), ← hQs, hQg, List.map_set]; rfl
        ((repeat ((conv => whnf); first | refine brT ?_ | refine brF ?_)); conv => whnf)
        subst hK3
        refine round_endR [.old 0, .old 1, .old 2, .old 3, .old 4] (q + 1) hlq (by omega) ⟨?_, ⟨?_, ?_⟩, rfl⟩
        · ((repeat ((conv => whnf); first | refine ⟨rfl, eq, ?_⟩ | refine ⟨rfl, rfl, ?_⟩)); trivial)
        · rw [List.length_map, List.length_map, hQl, clQ_len hcl hg2 (show q + 1 ≤ ps.length by omega)]
        · have heq : (curRow ps k (clQ R Pr q)).set k (rowOw (clQ R Pr (q + 1))) = curRow ps k (clQ R Pr (q + 1)) := by rw [curRow_set]; rfl
          ((repeat ((conv => whnf); first | refine brT ?_ | refine brF ?_)); conv => whnf)
          exact ⟨rfl, rfl, rfl, congrArg (Blk.tree 27 1) heq, rfl, rfl, rfl, rfl, rfl, rfl, trivial⟩
      · have h4 : q = ps.length := by rw [ltI_f] at g3; omega
        subst h4
        subst hK3
        have hnx : clQ R Pr ps.length = clP (clTo ps k) ps.length qs (j + 1) := by rw [clQ_all hcl hg2, clP_succ hlj, hR, hPr]
        rw [hnx]
        ((repeat ((conv => whnf); first | refine brT ?_ | refine brF ?_)); conv => whnf)
        subst hK2
        refine round_endR [.old 0, .old 1, .old 2, .old 3, .old 4] (j + 1) hlj (by omega) ⟨?_, ⟨rfl, rfl, rfl, rfl, rfl, rfl, rfl, rfl, rfl, rfl, trivial⟩, rfl⟩
        ((repeat ((conv => whnf); first | refine ⟨rfl, ej, ?_⟩ | refine ⟨rfl, rfl, ?_⟩)); trivial)
    · have h4 : j = qs.length := by rw [ltI_f] at g2; omega
      subst h4
      subst hK2
      have hfin : clP (clTo ps k) ps.length qs qs.length = clRow0 (clTo ps k) ps.length k qs := by unfold clP clRow0; rw [List.take_of_length_le (Nat.le_refl _)]
      have hfl := clP_len (up := clTo ps k) (n := ps.length) (qs := qs) (fun x hx => hgood _ (hkn x hx).2) qs.length (Nat.le_refl _)
      rw [hfin] at hfl ⊢
      have hnx : (clRow0 (clTo ps k) ps.length k qs).set k 0 = (clRow0 (clTo ps k) ps.length k (known ps[k])).set k 0 := by rw [hqs]
      generalize clRow0 (clTo ps k) ps.length k qs = R at hfl hnx ⊢
      ((repeat ((conv => whnf); first | refine brT ?_ | refine brF ?_)); conv => whnf)
      refine ⟨(curRow_len hlt).symm, rfl, k, rfl, by rw [curRow_len hlt]; exact hlt, ?_⟩
      ((repeat ((conv => whnf); first | refine brT ?_ | refine brF ?_)); conv => whnf)
      refine ⟨(curRow_len hlt).symm, rowOw R, rowOw R, curRow_at _ _ _, rfl, ?_⟩
      ((repeat ((conv => whnf); first | refine brT ?_ | refine brF ?_)); conv => whnf)
      have hRl : (R.map intLV).length = ps.length := by rw [List.length_map, hfl]
      have hgq : getP (.st (R.map intLV)) [k] = some (intLV (R.getD k 0)) := by simp only [getP]; rw [intL_at (g := R) (i := k) (by rw [hfl]; exact hlt)]
      refine ⟨rfl, rfl, k, rfl, by rw [hRl]; exact hlt, ?_⟩
      ((repeat ((conv => whnf); first | refine brT ?_ | refine brF ?_)); conv => whnf)
      refine ⟨rfl, k, [], intLV (R.getD k 0), rfl, hgq, rfl, rfl, rfl, (R.set k 0).map intLV, ?_, ?_⟩
      · rw [intL_at (g := R) (i := k) (by rw [hfl]; exact hlt), List.map_set]; rfl
      ((repeat ((conv => whnf); first | refine brT ?_ | refine brF ?_)); conv => whnf)
      subst hK
      refine round_endF 1 k [.old 0, .old 1] (k + 1) hlt (by omega) ⟨?_, ⟨?_, ?_⟩, rfl⟩
      · ((repeat ((conv => whnf); first | refine ⟨rfl, e, ?_⟩ | refine ⟨rfl, rfl, ?_⟩)); trivial)
      · rw [List.length_map, List.length_map, List.length_set]
      · have hSA : ((curRow ps k R).set k (rowOw (R.set k 0)))[k]? = some (rowOw (R.set k 0)) := List.getElem?_set_self (by rw [curRow_len hlt]; exact hlt)
        have heq : ((curRow ps k R).set k (rowOw (R.set k 0))).set k (rowSl (R.set k 0)) = upRow ps (k + 1) := by rw [List.set_set, curRow_set]; exact curRow_fz hlt hnx
        ((repeat ((conv => whnf); first | refine brT ?_ | refine brF ?_)); conv => whnf)
        refine ⟨27, 1, _, rowOw (R.set k 0), rfl, hSA, ?_⟩
        ((repeat ((conv => whnf); first | refine brT ?_ | refine brF ?_)); conv => whnf)
        exact ⟨rfl, rfl, rfl, congrArg (Blk.tree 27 1) heq, trivial⟩
  · have h4 : k = ps.length := by rw [ltI_f] at g1; omega
    subst h4
    subst hK
    have hu : upRow ps ps.length = (clT ps).map rowSl := by simp [upRow, clT]
    have hl2 : ((clT ps).map rowSl).length = ps.length := by rw [List.length_map]; exact clTo_len ps _
    rw [hu, hl2]
    ((repeat ((conv => whnf); first | refine brT ?_ | refine brF ?_)); conv => whnf)
    exact ⟨[.hs 0 ps.length], rfl, rfl, .inr ⟨[.old 1], ⟨rfl, rfl, trivial⟩, ⟨rfl, rfl, trivial⟩, rfl⟩⟩
theorem dms_rowSl (T : List (List Int)) : dms (T.map rowSl) = T.map rowSl := by
  rw [dms_map, List.map_map]; rfl
theorem climbs_f (ps : List Per) (us : List Uni) (hl : ps.length ≤ 40) (hp : parsIn ps) (hs : shallow (depths ps) = true) :
    FSpec env.P 113 [famLV ps us] (.own 27 1 ((clT ps).map rowSl)) := by
  have hl2 : ((clT ps).map rowSl).length = ps.length := by rw [List.length_map]; exact clTo_len ps _
  refine FSpec_of_tree (climbs_h ps us hl hp hs) ?_
  rw [dms_rowSl, hl2]
  rw [← hl2]
  simp [exW]
end Go.Proofs.Ytgkjafmmekjjlaa


namespace Go.Proofs.Ytgkjafmmekjjlaa
open Go.Lg Go.Pm
set_option maxHeartbeats 3200000
set_option maxRecDepth 10000
set_option linter.unusedVariables false
set_option linter.unusedSimpArgs false

/-! ### The eldest first -/
def wantL (q : Nat → Bool) (n : Nat) : List Nat := (List.range n).filter q
theorem wantL_succ (q : Nat → Bool) (n : Nat) : wantL q (n + 1) = wantL q n ++ (match q n with | true => [n] | false => []) := by
  unfold wantL
  rw [List.range_succ, List.filter_append]
  congr 1
theorem wantL_lt {q : Nat → Bool} {n x : Nat} (h : x ∈ wantL q n) : x < n := List.mem_range.1 (List.mem_filter.1 h).1
theorem wantL_len (q : Nat → Bool) (n : Nat) : (wantL q n).length ≤ n := by
  unfold wantL; exact Nat.le_trans (List.length_filter_le _ _) (by simp)
end Go.Proofs.Ytgkjafmmekjjlaa


namespace Go.Proofs.Ytgkjafmmekjjlaa
open Go.Shelf
set_option maxRecDepth 10000
set_option linter.unusedVariables false

end Go.Proofs.Ytgkjafmmekjjlaa


namespace Go.Proofs.Ytgkjafmmekjjlaa
open Go.Lg Go.Pm
set_option maxHeartbeats 3200000
set_option maxRecDepth 10000
set_option linter.unusedVariables false
set_option linter.unusedSimpArgs false

def rowW (q : Nat → Bool) (k : Nat) : List LV := (wantL q k).map natLV
theorem flats_rowW (q : Nat → Bool) (n : Nat) : flatsB (rowW q n) = true := by
  unfold rowW
  induction wantL q n with
  | nil => rfl
  | cons x l ih => simp [flatsB, flatB, natLV]; exact ih
/-! ### Children and siblings -/
end Go.Proofs.Ytgkjafmmekjjlaa


namespace Go.Proofs.Ytgkjafmmekjjlaa
open Go.Lg
set_option maxHeartbeats 1600000
set_option maxRecDepth 10000
set_option linter.unusedVariables false
set_option linter.unusedSimpArgs false

/-! ### Rows of texts -/
end Go.Proofs.Ytgkjafmmekjjlaa

namespace Go.Proofs.Ytgkjafmmekjjlaa
open Go.Lg
set_option maxHeartbeats 3200000
set_option maxRecDepth 10000
set_option linter.unusedVariables false
set_option linter.unusedSimpArgs false

end Go.Proofs.Ytgkjafmmekjjlaa

namespace Go.Proofs.Ytgkjafmmekjjlaa
open Go.Lg
set_option maxHeartbeats 3200000
set_option maxRecDepth 10000
set_option linter.unusedVariables false
set_option linter.unusedSimpArgs false

end Go.Proofs.Ytgkjafmmekjjlaa

namespace Go.Proofs.Ytgkjafmmekjjlaa
open Go.Lg
set_option maxHeartbeats 3200000
set_option maxRecDepth 10000
set_option linter.unusedVariables false
set_option linter.unusedSimpArgs false

end Go.Proofs.Ytgkjafmmekjjlaa

namespace Go.Proofs.Ytgkjafmmekjjlaa
open Go.Lg
set_option maxHeartbeats 3200000
set_option maxRecDepth 10000
set_option linter.unusedVariables false
set_option linter.unusedSimpArgs false

end Go.Proofs.Ytgkjafmmekjjlaa

namespace Go.Proofs.Ytgkjafmmekjjlaa
open Go.Lg
set_option maxHeartbeats 6400000
set_option maxRecDepth 10000
set_option linter.unusedVariables false
set_option linter.unusedSimpArgs false

theorem szFam_p {ps : List Per} {us : List Uni} (hf : FamOK ps us) (hk : 0 ≤ szFam 1048576 ps us) : ps.length ≤ 1048576 := by
  unfold szFam at hk
  split at hk
  · omega
  · rename_i hh
    rw [ltI_f] at hh
    have := (szPers_ok (by omega) (by omega) hf.p hf.n hh).1
    omega
theorem szFam_u {ps : List Per} {us : List Uni} (hf : FamOK ps us) (hk : 0 ≤ szFam 1048576 ps us) : us.length ≤ 1048576 := by
  unfold szFam at hk
  split at hk
  · omega
  · rename_i hh
    rw [ltI_f] at hh
    have h1 := szPers_ok (by omega) (by omega) hf.p hf.n hh
    split at hk
    · omega
    · rename_i h3
      rw [ltI_f] at h3
      have := (szUnis_ok hh (by omega) hf.u h3).1
      omega
end Go.Proofs.Ytgkjafmmekjjlaa

namespace Go.Proofs.Ytgkjafmmekjjlaa
open Go.Lg Go.Pm
set_option maxHeartbeats 3200000
set_option maxRecDepth 10000
set_option linter.unusedVariables false
set_option linter.unusedSimpArgs false

end Go.Proofs.Ytgkjafmmekjjlaa

namespace Go.Proofs.Ytgkjafmmekjjlaa
open Go.Lg Go.Pm
set_option maxHeartbeats 3200000
set_option maxRecDepth 10000
set_option linter.unusedVariables false
set_option linter.unusedSimpArgs false

theorem known_nn {ps : List Per} (hp : parsIn ps) {x : Nat} (h : x < ps.length) : known ps[x] = (match leI 0 ps[x].father with | true => [ps[x].father] | false => []) ++ (match leI 0 ps[x].mother with | true => [ps[x].mother] | false => []) := by
  have := hp x h
  have nn : ∀ v : Int, parIn v x → notNone v = leI 0 v := fun v hv => by
    unfold notNone
    rcases hv with rfl | ⟨h0, h1⟩
    · simp [notB, eqI, leI]
    · have e1 : eqI v (-1) = false := eqI_f.2 (by omega)
      rw [e1, leI_t.2 h0]; simp [notB]
  unfold known
  rw [← nn _ this.1, ← nn _ this.2]
  cases h1 : notNone ps[x].father <;> cases h2 : notNone ps[x].mother <;> simp [List.filter, h1, h2]
theorem l1Parents_f (ps : List Per) (us : List Uni) (hp : parsIn ps) (x : Nat) (hx : x < ps.length) : FSpec env.P 97 [famLV ps us, .int .i64 (x : Int)] (rowOw (known ps[x])) := by
  refine FSpec_of_code env_ok (fn := Try.f97) Try.func97 rfl Try.call97 _ _ ?_
  have hg : (ps.map Per.lv)[x]? = some ps[x].lv := by simp [hx]
  rw [known_nn hp hx]
  ((repeat ((conv => whnf); first | refine brT ?_ | refine brF ?_)); conv => whnf)
  refine ⟨x, _, rfl, hg, rfl, ?_⟩
  ((repeat ((conv => whnf); first | refine brT ?_ | refine brF ?_)); conv => whnf)
  (refine ⟨fun g1 => ?_, fun g1 => ?_⟩ <;> rw [g1])
  · ((repeat ((conv => whnf); first | refine brT ?_ | refine brF ?_)); conv => whnf)
    refine ⟨x, _, rfl, hg, rfl, ?_⟩
    ((repeat ((conv => whnf); first | refine brT ?_ | refine brF ?_)); conv => whnf)
    refine ⟨rfl, rfl, by show 1 ≤ Go.maxLen; unfold Go.maxLen; omega, by show 1 * 8 ≤ _; omega, ?_⟩
    ((repeat ((conv => whnf); first | refine brT ?_ | refine brF ?_)); conv => whnf)
    refine ⟨x, _, rfl, hg, rfl, ?_⟩
    ((repeat ((conv => whnf); first | refine brT ?_ | refine brF ?_)); conv => whnf)
    (refine ⟨fun g2 => ?_, fun g2 => ?_⟩ <;> rw [g2])
    · ((repeat ((conv => whnf); first | refine brT ?_ | refine brF ?_)); conv => whnf)
      refine ⟨x, _, rfl, hg, rfl, ?_⟩
      ((repeat ((conv => whnf); first | refine brT ?_ | refine brF ?_)); conv => whnf)
      refine ⟨rfl, rfl, by show 2 ≤ Go.maxLen; unfold Go.maxLen; omega, by show 2 * 8 ≤ _; omega, ?_⟩
      ((repeat ((conv => whnf); first | refine brT ?_ | refine brF ?_)); conv => whnf)
      exact ⟨rfl, rfl, rfl, rfl, by simp⟩
    · ((repeat ((conv => whnf); first | refine brT ?_ | refine brF ?_)); conv => whnf)
      exact ⟨rfl, rfl, rfl, rfl, by simp⟩
  · ((repeat ((conv => whnf); first | refine brT ?_ | refine brF ?_)); conv => whnf)
    refine ⟨x, _, rfl, hg, rfl, ?_⟩
    ((repeat ((conv => whnf); first | refine brT ?_ | refine brF ?_)); conv => whnf)
    (refine ⟨fun g2 => ?_, fun g2 => ?_⟩ <;> rw [g2])
    · ((repeat ((conv => whnf); first | refine brT ?_ | refine brF ?_)); conv => whnf)
      refine ⟨x, _, rfl, hg, rfl, ?_⟩
      ((repeat ((conv => whnf); first | refine brT ?_ | refine brF ?_)); conv => whnf)
      refine ⟨rfl, rfl, by show 1 ≤ Go.maxLen; unfold Go.maxLen; omega, by show 1 * 8 ≤ _; omega, ?_⟩
      ((repeat ((conv => whnf); first | refine brT ?_ | refine brF ?_)); conv => whnf)
      exact ⟨rfl, rfl, rfl, rfl, by simp⟩
    · ((repeat ((conv => whnf); first | refine brT ?_ | refine brF ?_)); conv => whnf)
      exact ⟨rfl, rfl, rfl, rfl, by simp⟩
/-- So many times what is not. -/
def noRow (k : Nat) : List LV := (List.replicate k (-1 : Int)).map intLV
theorem noRow_succ (k : Nat) : noRow k ++ [LV.int .i64 (-1)] = noRow (k + 1) := by
  unfold noRow; rw [List.replicate_succ', List.map_append]; rfl
theorem noRow_len (k : Nat) : (noRow k).length = k := by simp [noRow]
theorem rlxs_take {o : List Int} {d : Int} {qs : List Int} {i : Nat} (h : i < qs.length) : rlxs o d (qs.take (i + 1)) = rlx (rlxs o d (qs.take i)) d qs[i] := by
  unfold rlxs; rw [List.take_succ_eq_append_getElem h, List.foldl_append]; rfl
theorem up_f (ps : List Per) (us : List Uni) (hl : ps.length ≤ 40) (hp : parsIn ps) (hs : shallow (depths ps) = true) (p : Nat) (h : p < ps.length) : FSpec env.P 68 [famLV ps us, .int .i64 (p : Int)] (rowOw (upS ps p)) := by
  refine FSpec_of_code env_ok (fn := Try.f68) Try.func68 rfl Try.call68 _ _ ?_
  have hP : (ps.map Per.lv).length = ps.length := List.length_map ..
  have hp' : ps.length ≤ Go.maxLen := by unfold Go.maxLen; omega
  ((repeat ((conv => whnf); first | refine brT ?_ | refine brF ?_)); conv => whnf)
  intro _
  ((repeat ((conv => whnf); first | refine brT ?_ | refine brF ?_)); conv => whnf)
  rw [hP]
  refine loop_ruleR (α := Nat) [.old 0, .old 1] (fun k => [(9, .undef), (13, .int .i64 (k : Int)), (5, .hs 1 (noRow k).length)]) (fun k => [.box (famLV ps us), .arr 3 1 (noRow k)]) (fun k => ps.length - k) (fun k => k ≤ ps.length) 0 (Nat.zero_le _) ?_ ?_
  · refine ⟨?_, ⟨rfl, rfl, rfl, rfl, trivial⟩, rfl⟩
    ((repeat ((conv => whnf); refine ⟨rfl, rfl, ?_⟩)); trivial)
  intro k hk
  generalize hK : kk _ = KK
  ((repeat ((conv => whnf); first | refine brT ?_ | refine brF ?_)); conv => whnf)
  (refine ⟨fun g1 => ?_, fun g1 => ?_⟩ <;> rw [g1])
  · have hlt : k < ps.length := by rw [ltI_t] at g1; omega
    have e := step_i hlt hp'
    have hn := noRow_succ k
    have hn2 := noRow_len (k + 1)
    ((repeat ((conv => whnf); first | refine brT ?_ | refine brF ?_)); conv => whnf)
    refine ⟨rfl, rfl, ?_, ?_, ?_⟩
    · rw [hn]; unfold Go.maxLen; omega
    · rw [hn]; show (noRow (k + 1)).length * 8 ≤ _; omega
    rw [hn]
    ((repeat ((conv => whnf); first | refine brT ?_ | refine brF ?_)); conv => whnf)
    subst hK
    refine round_endR [.old 0, .old 3] (k + 1) hlt (by omega) ⟨?_, ⟨rfl, rfl, rfl, rfl, trivial⟩, rfl⟩
    ((repeat ((conv => whnf); first | refine ⟨rfl, e, ?_⟩ | refine ⟨rfl, rfl, ?_⟩)); trivial)
  have h4 : k = ps.length := by rw [ltI_f] at g1; omega
  subst h4
  subst hK
  have hset : (noRow ps.length).set p (LV.int .i64 0) = (upTo ps p 0).map intLV := by
    show ((List.replicate ps.length (-1 : Int)).map intLV).set p (intLV 0) = ((List.replicate ps.length (-1 : Int)).set p 0).map intLV
    rw [List.map_set]
  have hgp : getP (.st (noRow ps.length)) [p] = some (intLV (-1)) := by
    simp only [getP]; unfold noRow; rw [List.getElem?_map, List.getElem?_replicate, if_pos h]; rfl
  have hgn : (noRow ps.length)[p]? = some (intLV (-1)) := by
    unfold noRow; rw [List.getElem?_map, List.getElem?_replicate, if_pos h]; rfl
  have hnl := noRow_len ps.length
  have hul : ∀ j, ((upTo ps p j).map intLV).length = ps.length := fun j => by rw [List.length_map, upTo_len]
  rw [hnl]
  ((repeat ((conv => whnf); first | refine brT ?_ | refine brF ?_)); conv => whnf)
  refine ⟨hnl.symm, rfl, p, rfl, by rw [hnl]; exact h, ?_⟩
  ((repeat ((conv => whnf); first | refine brT ?_ | refine brF ?_)); conv => whnf)
  refine ⟨hnl.symm, p, [], intLV (-1), rfl, hgp, rfl, rfl, rfl, (upTo ps p 0).map intLV, by rw [hgn]; exact hset, ?_⟩
  ((repeat ((conv => whnf); first | refine brT ?_ | refine brF ?_)); conv => whnf)
  refine ⟨(hul 0).symm, fun _ => ?_⟩
  ((repeat ((conv => whnf); first | refine brT ?_ | refine brF ?_)); conv => whnf)
  rw [hul 0, wrap64 (by omega) (by omega)]
  refine loop_rule (α := Nat) (fun j => [(6, .int .i64 ((ps.length : Int) - 1 - (j : Int)))]) (fun j => [.box (famLV ps us), .arr 3 1 ((upTo ps p j).map intLV)]) (fun j => ps.length - j) (fun j => j ≤ ps.length) 0 (Nat.zero_le _) ?_ ?_
  · refine ⟨?_, ⟨rfl, rfl, trivial⟩, rfl, rfl⟩
    have e0 : LV.int .i64 ((ps.length : Int) - 1) = LV.int .i64 ((ps.length : Int) - 1 - ((0 : Nat) : Int)) := by simp
    ((repeat ((conv => whnf); first | refine ⟨e0, ?_⟩ | refine ⟨rfl, ?_⟩)); trivial)
  intro j hj
  generalize hK : kk _ = KK
  ((repeat ((conv => whnf); first | refine brT ?_ | refine brF ?_)); conv => whnf)
  (refine ⟨fun g1 => ?_, fun g1 => ?_⟩ <;> rw [g1])
  · have hlt : j < ps.length := by rw [leI_t] at g1; omega
    obtain ⟨x, hx⟩ : ∃ x, x = ps.length - 1 - j := ⟨_, rfl⟩
    have hxl : x < ps.length := by omega
    have ex : (ps.length : Int) - 1 - (j : Int) = (x : Int) := by omega
    have hR : upTo ps p (j + 1) = relax ps (upTo ps p j) x := by rw [upTo, hx]
    have inv := upTo_inv hp h j (by omega)
    rw [show ps.length - j = x + 1 by omega] at inv
    have e := step_i hlt hp'
    have eb : LV.int .i64 (IntKind.i64.wrap ((x : Int) - 1)) = LV.int .i64 ((ps.length : Int) - 1 - ((j + 1 : Nat) : Int)) := by rw [wrap64 (by omega) (by omega)]; congr 1; omega
    rw [ex]
    generalize upTo ps p j = o at inv hR ⊢
    have hol : (o.map intLV).length = ps.length := by rw [List.length_map, inv.len]
    have hox := intL_at (g := o) (i := x) (by rw [inv.len]; exact hxl)
    have hog : getP (.st (o.map intLV)) [x] = some (intLV (o.getD x 0)) := by simp only [getP]; rw [hox]
    ((repeat ((conv => whnf); first | refine brT ?_ | refine brF ?_)); conv => whnf)
    refine ⟨hol.symm, rfl, x, rfl, by rw [hol]; exact hxl, ?_⟩
    ((repeat ((conv => whnf); first | refine brT ?_ | refine brF ?_)); conv => whnf)
    refine ⟨hol.symm, by simp, intLV (o.getD x 0), hog, rfl, ?_⟩
    ((repeat ((conv => whnf); first | refine brT ?_ | refine brF ?_)); conv => whnf)
    (refine ⟨fun g2 => ?_, fun g2 => ?_⟩ <;> rw [g2])
    · have hsame : o = upTo ps p (j + 1) := by rw [hR]; unfold relax; rw [g2]
      ((repeat ((conv => whnf); first | refine brT ?_ | refine brF ?_)); conv => whnf)
      subst hK
      refine round_end (j + 1) hlt (by omega) ⟨?_, ⟨rfl, congrArg (fun o : List Int => Blk.arr 3 1 (o.map intLV)) hsame, trivial⟩, rfl, rfl⟩
      ((repeat ((conv => whnf); first | refine ⟨eb, ?_⟩ | refine ⟨rfl, ?_⟩)); trivial)
    · ((repeat ((conv => whnf); first | refine brT ?_ | refine brF ?_)); conv => whnf)
      refine ⟨_, l1Parents_f ps us hp x hxl, ?_⟩
      ((repeat ((conv => whnf); first | refine brT ?_ | refine brF ?_)); conv => whnf)
      intro _
      ((repeat ((conv => whnf); first | refine brT ?_ | refine brF ?_)); conv => whnf)
      rw [ltI_f] at g2
      have hkn := kn_in hp hxl
      have hd10 : o.getD x 0 ≤ 10 := by
        rcases inv.real x hxl with e1 | ⟨_, hu⟩
        · omega
        · have := hu.small hp hs; omega
      have hR2 : upTo ps p (j + 1) = rlxs o (o.getD x 0 + 1) (known ps[x]) := by rw [hR]; unfold relax; rw [ltI_f.2 g2, List.getElem?_eq_getElem hxl]
      have hst : ∀ i, (rlxs o (o.getD x 0 + 1) ((known ps[x]).take i)).getD x 0 = o.getD x 0 := fun i => by
        have g := (rlxs_get (n := ps.length) (d := o.getD x 0 + 1) (by omega) ((known ps[x]).take i) o inv.len (fun v hv => ⟨(hkn v (List.mem_of_mem_take hv)).1, by have := (hkn v (List.mem_of_mem_take hv)).2; omega⟩) x).1
        rcases g with g | ⟨g, _⟩
        · exact g
        · have := (hkn _ (List.mem_of_mem_take g)).2; omega
      generalize hqs : known ps[x] = qs at hkn hR2 hst
      have hq2 : qs.length ≤ 2 := by rw [← hqs]; exact known_two _
      have hQ : (qs.map intLV).length = qs.length := List.length_map ..
      rw [hQ]
      refine loop_rule (α := Nat) (fun i => [(38, .int .i64 (i : Int))]) (fun i => [.box (famLV ps us), .arr 3 1 ((rlxs o (o.getD x 0 + 1) (qs.take i)).map intLV)]) (fun i => qs.length - i) (fun i => i ≤ qs.length) 0 (Nat.zero_le _) ?_ ?_
      · refine ⟨?_, ⟨rfl, rfl, trivial⟩, rfl, rfl⟩
        ((repeat ((conv => whnf); refine ⟨rfl, ?_⟩)); trivial)
      intro i hi
      have hsti := hst i
      have hlen : (rlxs o (o.getD x 0 + 1) (qs.take i)).length = ps.length := by rw [rlxs_len, inv.len]
      have hnx : ∀ hi : i < qs.length, rlxs o (o.getD x 0 + 1) (qs.take (i + 1)) = rlx (rlxs o (o.getD x 0 + 1) (qs.take i)) (o.getD x 0 + 1) qs[i] := fun hi => rlxs_take hi
      have hal : i = qs.length → rlxs o (o.getD x 0 + 1) (qs.take i) = rlxs o (o.getD x 0 + 1) qs := fun hi => by rw [List.take_of_length_le (by omega)]
      generalize rlxs o (o.getD x 0 + 1) (qs.take i) = r at hsti hlen hnx hal ⊢
      have hrl : (r.map intLV).length = ps.length := by rw [List.length_map, hlen]
      have hlo : ps.length = (r.map intLV).length := hrl.symm
      have hrx := intL_at (g := r) (i := x) (by rw [hlen]; exact hxl)
      rw [hsti] at hrx
      have hrg : getP (.st (r.map intLV)) [x] = some (intLV (o.getD x 0)) := by simp only [getP]; rw [hrx]
      generalize hK2 : kk _ = KK2
      ((repeat ((conv => whnf); first | refine brT ?_ | refine brF ?_)); conv => whnf)
      (refine ⟨fun g3 => ?_, fun g3 => ?_⟩ <;> rw [g3])
      · have hli : i < qs.length := by rw [ltI_t] at g3; omega
        have ei := step_i hli (by unfold Go.maxLen; omega)
        have hn := hnx hli
        obtain ⟨q0, q1⟩ := hkn qs[i] (List.getElem_mem hli)
        obtain ⟨q, hq⟩ : ∃ q : Nat, qs[i] = (q : Int) := ⟨qs[i].toNat, by omega⟩
        rw [hq] at hn q1
        rw [Int.toNat_natCast] at q1
        have hrq := intL_at (g := r) (i := q) (by rw [hlen]; omega)
        have hrh : getP (.st (r.map intLV)) [q] = some (intLV (r.getD q 0)) := by simp only [getP]; rw [hrq]
        ((repeat ((conv => whnf); first | refine brT ?_ | refine brF ?_)); conv => whnf)
        refine ⟨i, intLV (q : Int), rfl, by rw [List.getElem?_map, List.getElem?_eq_getElem hli, hq]; rfl, rfl, ?_⟩
        ((repeat ((conv => whnf); first | refine brT ?_ | refine brF ?_)); conv => whnf)
        refine ⟨true, by kernel_rfl, ?_⟩
        ((repeat ((conv => whnf); first | refine brT ?_ | refine brF ?_)); conv => whnf)
        refine ⟨hlo, rfl, q, rfl, by rw [hrl]; omega, ?_⟩
        ((repeat ((conv => whnf); first | refine brT ?_ | refine brF ?_)); conv => whnf)
        refine ⟨hlo, by simp, intLV (r.getD q 0), hrh, rfl, ?_⟩
        ((repeat ((conv => whnf); first | refine brT ?_ | refine brF ?_)); conv => whnf)
        have wr1 : IntKind.i64.wrap (o.getD x 0 + 1) = o.getD x 0 + 1 := wrap64 (by omega) (by omega)
        have hset : (ltI (r.getD q 0) 0 || ltI (o.getD x 0 + 1) (r.getD q 0)) = true → (rlx r (o.getD x 0 + 1) (q : Int)).map intLV = (r.map intLV).set q (intLV (o.getD x 0 + 1)) := fun hc => by
          unfold rlx; rw [Int.toNat_natCast, hc, List.map_set]
        have hkeep : (ltI (r.getD q 0) 0 || ltI (o.getD x 0 + 1) (r.getD q 0)) = false → rlx r (o.getD x 0 + 1) (q : Int) = r := fun hc => by
          unfold rlx; rw [Int.toNat_natCast, hc]
        (refine ⟨fun g4 => ?_, fun g4 => ?_⟩ <;> rw [g4])
        · ((repeat ((conv => whnf); first | refine brT ?_ | refine brF ?_)); conv => whnf)
          refine ⟨hlo, rfl, x, rfl, by rw [hrl]; exact hxl, ?_⟩
          ((repeat ((conv => whnf); first | refine brT ?_ | refine brF ?_)); conv => whnf)
          refine ⟨hlo, by simp, intLV (o.getD x 0), hrg, rfl, ?_⟩
          ((repeat ((conv => whnf); first | refine brT ?_ | refine brF ?_)); conv => whnf)
          refine ⟨hlo, rfl, q, rfl, by rw [hrl]; omega, ?_⟩
          ((repeat ((conv => whnf); first | refine brT ?_ | refine brF ?_)); conv => whnf)
          refine ⟨hlo, q, [], intLV (r.getD q 0), rfl, hrh, rfl, rfl, rfl, (rlxs o (o.getD x 0 + 1) (qs.take (i + 1))).map intLV, by rw [hrq]; show (r.map intLV).set q (.int .i64 (IntKind.i64.wrap (o.getD x 0 + 1))) = _; rw [wr1, hn, hset (by rw [g4]; rfl)]; rfl, ?_⟩
          ((repeat ((conv => whnf); first | refine brT ?_ | refine brF ?_)); conv => whnf)
          subst hK2
          refine round_end (i + 1) hli (by omega) ⟨?_, ⟨rfl, rfl, trivial⟩, rfl, rfl⟩
          ((repeat ((conv => whnf); first | refine ⟨ei, ?_⟩ | refine ⟨rfl, ?_⟩)); trivial)
        · ((repeat ((conv => whnf); first | refine brT ?_ | refine brF ?_)); conv => whnf)
          refine ⟨hlo, rfl, q, rfl, by rw [hrl]; omega, ?_⟩
          ((repeat ((conv => whnf); first | refine brT ?_ | refine brF ?_)); conv => whnf)
          refine ⟨hlo, by simp, intLV (r.getD q 0), hrh, rfl, ?_⟩
          ((repeat ((conv => whnf); first | refine brT ?_ | refine brF ?_)); conv => whnf)
          refine ⟨hlo, rfl, x, rfl, by rw [hrl]; exact hxl, ?_⟩
          ((repeat ((conv => whnf); first | refine brT ?_ | refine brF ?_)); conv => whnf)
          refine ⟨hlo, by simp, intLV (o.getD x 0), hrg, rfl, ?_⟩
          ((repeat ((conv => whnf); first | refine brT ?_ | refine brF ?_)); conv => whnf)
          rw [wr1]
          (refine ⟨fun g5 => ?_, fun g5 => ?_⟩ <;> rw [g5])
          · ((repeat ((conv => whnf); first | refine brT ?_ | refine brF ?_)); conv => whnf)
            refine ⟨hlo, rfl, x, rfl, by rw [hrl]; exact hxl, ?_⟩
            ((repeat ((conv => whnf); first | refine brT ?_ | refine brF ?_)); conv => whnf)
            refine ⟨hlo, by simp, intLV (o.getD x 0), hrg, rfl, ?_⟩
            ((repeat ((conv => whnf); first | refine brT ?_ | refine brF ?_)); conv => whnf)
            refine ⟨hlo, rfl, q, rfl, by rw [hrl]; omega, ?_⟩
            ((repeat ((conv => whnf); first | refine brT ?_ | refine brF ?_)); conv => whnf)
            refine ⟨hlo, q, [], intLV (r.getD q 0), rfl, hrh, rfl, rfl, rfl, (rlxs o (o.getD x 0 + 1) (qs.take (i + 1))).map intLV, by rw [hrq]; show (r.map intLV).set q (.int .i64 (IntKind.i64.wrap (o.getD x 0 + 1))) = _; rw [wr1, hn, hset (by rw [g4, g5]; rfl)]; rfl, ?_⟩
            ((repeat ((conv => whnf); first | refine brT ?_ | refine brF ?_)); conv => whnf)
            subst hK2
            refine round_end (i + 1) hli (by omega) ⟨?_, ⟨rfl, rfl, trivial⟩, rfl, rfl⟩
            ((repeat ((conv => whnf); first | refine ⟨ei, ?_⟩ | refine ⟨rfl, ?_⟩)); trivial)
          · have hk0 := hkeep (by rw [g4, g5]; rfl)
            rw [← hn] at hk0
            ((repeat ((conv => whnf); first | refine brT ?_ | refine brF ?_)); conv => whnf)
            subst hK2
            refine round_end (i + 1) hli (by omega) ⟨?_, ⟨rfl, congrArg (fun o : List Int => Blk.arr 3 1 (o.map intLV)) hk0.symm, trivial⟩, rfl, rfl⟩
            ((repeat ((conv => whnf); first | refine ⟨ei, ?_⟩ | refine ⟨rfl, ?_⟩)); trivial)
      · have h5 : i = qs.length := by rw [ltI_f] at g3; omega
        have ha := hal h5
        rw [← hR2] at ha
        subst hK2
        ((repeat ((conv => whnf); first | refine brT ?_ | refine brF ?_)); conv => whnf)
        subst hK
        refine round_end (j + 1) hlt (by omega) ⟨?_, ⟨rfl, congrArg (fun o : List Int => Blk.arr 3 1 (o.map intLV)) ha, trivial⟩, rfl, rfl⟩
        ((repeat ((conv => whnf); first | refine ⟨eb, ?_⟩ | refine ⟨rfl, ?_⟩)); trivial)
  · have h5 : j = ps.length := by rw [leI_f] at g1; omega
    subst h5
    subst hK
    ((repeat ((conv => whnf); first | refine brT ?_ | refine brF ?_)); conv => whnf)
    exact ⟨(hul _).symm, rfl, rfl, rfl, by simp⟩
end Go.Proofs.Ytgkjafmmekjjlaa


namespace Go.Proofs.Ytgkjafmmekjjlaa
open Go.Lg Go.Pm
set_option maxHeartbeats 3200000
set_option maxRecDepth 10000
set_option linter.unusedVariables false
set_option linter.unusedSimpArgs false

theorem nats_f {f : FuncId} {args : List LV} {xs : List Nat} (h : HSpec env.P f args [] (.hs 0 (xs.map natLV).length) [.arr 3 1 (xs.map natLV)]) : FSpec env.P f args (.own 3 1 (xs.map natLV)) :=
  FSpec_of_HSpec h (by simp [exW])
def castL (xs : List Nat) : List Int := xs.map fun n : Nat => (n : Int)
theorem castL_map (xs : List Nat) : xs.map natLV = (castL xs).map intLV := by unfold castL; rw [List.map_map]; rfl
theorem castL_len (xs : List Nat) : (castL xs).length = xs.length := List.length_map ..
theorem ints_h {f : FuncId} {args : List LV} {xs : List Nat} (h : HSpec env.P f args [] (.hs 0 (xs.map natLV).length) [.arr 3 1 (xs.map natLV)]) : HSpec env.P f args [] (.hs 0 ((castL xs).map intLV).length) [.arr 3 1 ((castL xs).map intLV)] := by
  rw [castL_map] at h; exact h
end Go.Proofs.Ytgkjafmmekjjlaa

namespace Go.Proofs.Ytgkjafmmekjjlaa
open Go.Lg Go.Pm
set_option maxHeartbeats 3200000
set_option maxRecDepth 10000
set_option linter.unusedVariables false
set_option linter.unusedSimpArgs false

theorem fam_sh {ps : List Per} {us : List Uni} (h : famOk ps us = true) : shallow (depths ps) = true := by
  unfold famOk at h; simp only [Bool.and_eq_true] at h; exact h.2.2.2.2
theorem fam_pi {ps : List Per} {us : List Uni} (h : famOk ps us = true) : parsIn ps := by
  unfold famOk at h; simp only [Bool.and_eq_true] at h; exact parsIn_of h.2.2.1
theorem fam_40 {ps : List Per} {us : List Uni} (h : famOk ps us = true) : ps.length ≤ 40 := by
  unfold famOk at h; simp only [Bool.and_eq_true, decide_eq_true_eq] at h; exact h.1
/-- The table, as it is read. -/
def upL (ps : List Per) : LV := .sl ((clT ps).map rowSl)
theorem clT_row {ps : List Per} (hp : parsIn ps) (hs : shallow (depths ps) = true) {p : Nat} (h : p < ps.length) : ((clT ps).map rowSl)[p]? = some (rowSl ((upS ps p).map tooF)) := by
  rw [List.getElem?_map, clT_get hp hs h]; rfl
theorem tooRow_at {ps : List Per} {p q : Nat} (h : q < ps.length) : (((upS ps p).map tooF).map intLV)[q]? = some (intLV (tooF (upd ps p q))) := by
  have hl : q < (upS ps p).length := by rw [upS_len]; exact h
  have e : upd ps p q = (upS ps p)[q] := by unfold upd; rw [List.getD_eq_getElem?_getD, List.getElem?_eq_getElem hl]; rfl
  rw [List.getElem?_map, List.getElem?_map, List.getElem?_eq_getElem hl, e]; rfl
theorem upRow_get {ps : List Per} {p q : Nat} (h : q < ps.length) : ((upS ps p).map intLV)[q]? = some (intLV (upd ps p q)) := by
  have hl : q < (upS ps p).length := by rw [upS_len]; exact h
  have e : upd ps p q = (upS ps p)[q] := by unfold upd; rw [List.getD_eq_getElem?_getD, List.getElem?_eq_getElem hl]; rfl
  rw [List.getElem?_map, List.getElem?_eq_getElem hl, e]; rfl
theorem tooF_lead {m : Int} (h : m ≤ 10) : notB (eqI (tooF m) 11) = leI 0 m := by
  unfold tooF
  cases e : ltI m 0 with
  | true => rw [ltI_t] at e; rw [show leI 0 m = false by rw [leI_f]; omega]; simp [notB, eqI]
  | false => rw [ltI_f] at e; rw [leI_t.2 e, show eqI m 11 = false by rw [eqI_f]; omega]; simp [notB]
theorem lead_spec {ps : List Per} (hp : parsIn ps) (hs : shallow (depths ps) = true) {p q : Nat} (h : p < ps.length) (hq : q < ps.length) :
    FSpec env.P 168 [upL ps, .int .i64 (p : Int), .int .i64 (q : Int)] (.bool (leI 0 (upd ps p q))) := by
  refine FSpec_of_code env_ok (fn := Try.f168) Try.func168 rfl Try.call168 _ _ ?_
  have hb := upd_small hp hs h hq
  unfold upL
  rw [← tooF_lead hb.2]
  ((repeat ((conv => whnf); first | refine brT ?_ | refine brF ?_)); conv => whnf)
  refine ⟨p, _, rfl, clT_row hp hs h, rfl, ?_⟩
  ((repeat ((conv => whnf); first | refine brT ?_ | refine brF ?_)); conv => whnf)
  refine ⟨q, _, rfl, tooRow_at hq, rfl, ?_⟩
  ((repeat ((conv => whnf); first | refine brT ?_ | refine brF ?_)); conv => whnf)
  exact fin rfl
theorem common1_spec {ps : List Per} (hp : parsIn ps) (hs : shallow (depths ps) = true) {a b q : Nat} (ha : a < ps.length) (hb : b < ps.length) (hq : q < ps.length) :
    FSpec env.P 167 [.int .i64 (q : Int), .ref (upL ps), .ref (.int .i64 (a : Int)), .ref (.int .i64 (b : Int))] (.bool (leI 0 (upd ps a q) && leI 0 (upd ps b q))) := by
  refine FSpec_of_code env_ok (fn := Try.f167) Try.func167 rfl Try.call167 _ _ ?_
  have h1 := lead_spec hp hs ha hq
  have h2 := lead_spec hp hs hb hq
  unfold upL at h1 h2 ⊢
  ((repeat ((conv => whnf); first | refine brT ?_ | refine brF ?_)); conv => whnf)
  refine ⟨_, h1, ?_⟩
  ((repeat ((conv => whnf); first | refine brT ?_ | refine brF ?_)); conv => whnf)
  (refine ⟨fun g => ?_, fun g => ?_⟩ <;> rw [g])
  · ((repeat ((conv => whnf); first | refine brT ?_ | refine brF ?_)); conv => whnf)
    refine ⟨_, h2, ?_⟩
    ((repeat ((conv => whnf); first | refine brT ?_ | refine brF ?_)); conv => whnf)
    exact fin rfl
  · ((repeat ((conv => whnf); first | refine brT ?_ | refine brF ?_)); conv => whnf)
    exact fin rfl
/-! ### Lists of persons -/
def comQ (ps : List Per) (a b q : Nat) : Bool := leI 0 (upd ps a q) && leI 0 (upd ps b q)
def comL (ps : List Per) (us : List Uni) (a b : Int) : List Nat := match hasP ps us a && hasP ps us b with | true => wantL (comQ ps a.toNat b.toNat) ps.length | false => []
theorem rowW_eq (q : Nat → Bool) (n : Nat) : rowW q n = (wantL q n).map natLV := rfl
def belI (x n : Int) : Bool := leI 0 x && ltI x n
theorem isBelow_spec (x n : Int) : FSpec env.P 139 [.int .i64 x, .int .i64 n] (.bool (belI x n)) := by
  refine FSpec_of_code env_ok (fn := Try.f139) Try.func139 rfl Try.call139 _ _ ?_
  unfold belI
  ((repeat ((conv => whnf); first | refine brT ?_ | refine brF ?_)); conv => whnf)
  (refine ⟨fun g => ?_, fun g => ?_⟩ <;> rw [g])
  · ((repeat ((conv => whnf); first | refine brT ?_ | refine brF ?_)); conv => whnf); exact fin rfl
  · ((repeat ((conv => whnf); first | refine brT ?_ | refine brF ?_)); conv => whnf); exact fin rfl
theorem hasP_bel (ps : List Per) (us : List Uni) (p : Int) : hasP ps us p = (belI p ps.length && famOk ps us) := by unfold hasP belI; rw [Bool.and_assoc]
theorem hasPeople_spec (ps : List Per) (us : List Uni) (a b : Int) : FSpec env.P 112 [famLV ps us, .sl [.int .i64 a, .int .i64 b]] (.bool (hasP ps us a && hasP ps us b)) := by
  refine FSpec_of_code env_ok (fn := Try.f112) Try.func112 rfl Try.call112 _ _ ?_
  have hP : (ps.map Per.lv).length = ps.length := List.length_map ..
  rw [hasP_bel, hasP_bel]
  ((repeat ((conv => whnf); first | refine brT ?_ | refine brF ?_)); conv => whnf)
  intro _
  ((repeat ((conv => whnf); first | refine brT ?_ | refine brF ?_)); conv => whnf)
  refine loop_rule (α := Nat) (fun k => [(9, .int .i64 (k : Int))]) (fun k => [.box (famLV ps us)]) (fun k => 2 - k) (fun k => k ≤ 2 ∧ (1 ≤ k → belI a ps.length = true) ∧ (2 ≤ k → belI b ps.length = true)) 0 ⟨Nat.zero_le _, fun h => by omega, fun h => by omega⟩ ?_ ?_
  · refine ⟨?_, ⟨rfl, trivial⟩, rfl, rfl⟩
    ((repeat ((conv => whnf); refine ⟨rfl, ?_⟩)); trivial)
  rintro k ⟨hk, h1, h2⟩
  ((repeat ((conv => whnf); first | refine brT ?_ | refine brF ?_)); conv => whnf)
  (refine ⟨fun g1 => ?_, fun g1 => ?_⟩ <;> rw [g1])
  · have hlt : k < 2 := by rw [ltI_t] at g1; have : (k : Int) < 2 := g1; omega
    have e := step_i hlt (by unfold Go.maxLen; omega)
    ((repeat ((conv => whnf); first | refine brT ?_ | refine brF ?_)); conv => whnf)
    have hget : ([LV.int .i64 a, LV.int .i64 b] : List LV)[k]? = some (.int .i64 (if k = 0 then a else b)) := by
      rcases Nat.lt_or_ge k 1 with h | h
      · obtain rfl : k = 0 := by omega
        rfl
      · obtain rfl : k = 1 := by omega
        rfl
    refine ⟨k, .int .i64 (if k = 0 then a else b), rfl, hget, rfl, ?_⟩
    ((repeat ((conv => whnf); first | refine brT ?_ | refine brF ?_)); conv => whnf)
    intro _
    ((repeat ((conv => whnf); first | refine brT ?_ | refine brF ?_)); conv => whnf)
    rw [hP]
    refine ⟨_, isBelow_spec _ _, ?_⟩
    ((repeat ((conv => whnf); first | refine brT ?_ | refine brF ?_)); conv => whnf)
    cases g2 : belI (if k = 0 then a else b) ps.length
    · rw [show notB false = true by simp [notB]]
      ((repeat ((conv => whnf); first | refine brT ?_ | refine brF ?_)); conv => whnf)
      refine fin ?_
      rcases Nat.lt_or_ge k 1 with h | h
      · obtain rfl : k = 0 := by omega
        rw [if_pos rfl] at g2; simp [g2]
      · obtain rfl : k = 1 := by omega
        rw [if_neg (by omega)] at g2; simp [g2]
    · rw [show notB true = false by simp [notB]]
      ((repeat ((conv => whnf); first | refine brT ?_ | refine brF ?_)); conv => whnf)
      refine round_end (k + 1) ⟨hlt, fun _ => ?_, fun _ => ?_⟩ (by omega) ⟨?_, ⟨rfl, trivial⟩, rfl, rfl⟩
      · rcases Nat.lt_or_ge k 1 with h | h
        · obtain rfl : k = 0 := by omega
          rwa [if_pos rfl] at g2
        · exact h1 h
      · obtain rfl : k = 1 := by omega
        rwa [if_neg (by omega)] at g2
      ((repeat ((conv => whnf); first | refine ⟨e, ?_⟩ | refine ⟨rfl, ?_⟩)); trivial)
  · have h4 : k = 2 := by rw [ltI_f] at g1; have : (2 : Int) ≤ k := g1; omega
    subst h4
    ((repeat ((conv => whnf); first | refine brT ?_ | refine brF ?_)); conv => whnf)
    refine ⟨_, isFamily_impl ps us, ?_⟩
    ((repeat ((conv => whnf); first | refine brT ?_ | refine brF ?_)); conv => whnf)
    refine fin ?_
    rw [h1 (by omega), h2 (by omega)]; simp
theorem people3_h (ps : List Per) (us : List Uni) (F : Nat) (x y z : LV) (q : Nat → Bool) (hl : ps.length ≤ 40) (hF : ∀ i, i < ps.length → FSpec env.P F [.int .i64 (i : Int), .ref x, .ref y, .ref z] (.bool (q i))) :
    HSpec env.P 80 [famLV ps us, .clos F [.ref x, .ref y, .ref z]] [] (.hs 0 (rowW q ps.length).length) [.arr 3 1 (rowW q ps.length)] := by
  refine HSpec_of_code (E := env.x [] 0) env_ok.x (fn := Try.f80) Try.func80 rfl Try.call80 _ _ _ _ ?_
  have hP : (ps.map Per.lv).length = ps.length := List.length_map ..
  have hp' : ps.length ≤ Go.maxLen := by unfold Go.maxLen; omega
  ((repeat ((conv => whnf); first | refine brT ?_ | refine brF ?_)); conv => whnf)
  intro _
  rw [hP]
  ((repeat ((conv => whnf); first | refine brT ?_ | refine brF ?_)); conv => whnf)
  refine loop_ruleR (α := Nat) [.old 0, .nil 3 1] (fun k => [(10, .int .i64 (k : Int)), (5, .hs 1 (rowW q k).length)]) (fun k => [.box (famLV ps us), .arr 3 1 (rowW q k)]) (fun k => ps.length - k) (fun k => k ≤ ps.length) 0 (Nat.zero_le _) ?_ ?_
  · refine ⟨?_, ⟨rfl, rfl, rfl, rfl, trivial⟩, rfl⟩
    ((repeat ((conv => whnf); refine ⟨rfl, rfl, ?_⟩)); trivial)
  intro k hk
  generalize hK : kk _ = KK
  ((repeat ((conv => whnf); first | refine brT ?_ | refine brF ?_)); conv => whnf)
  (refine ⟨fun g1 => ?_, fun g1 => ?_⟩ <;> rw [g1])
  · have hlt : k < ps.length := by rw [ltI_t] at g1; omega
    have e := step_i hlt hp'
    have hw := wantL_succ q k
    have hwl := wantL_len q (k + 1)
    ((repeat ((conv => whnf); first | refine brT ?_ | refine brF ?_)); conv => whnf)
    refine ⟨_, hF k hlt, ?_⟩
    ((repeat ((conv => whnf); first | refine brT ?_ | refine brF ?_)); conv => whnf)
    (refine ⟨fun g2 => ?_, fun g2 => ?_⟩ <;> rw [g2])
    · rw [g2] at hw
      have e2 : rowW q k ++ [LV.int .i64 (k : Int)] = rowW q (k + 1) := by unfold rowW; rw [hw, List.map_append]; rfl
      have hl1 : (rowW q (k + 1)).length ≤ k + 1 := by unfold rowW; rw [List.length_map]; exact hwl
      ((repeat ((conv => whnf); first | refine brT ?_ | refine brF ?_)); conv => whnf)
      refine ⟨rfl, rfl, ?_, ?_, ?_⟩
      · rw [e2]; unfold Go.maxLen; omega
      · rw [e2]; show (rowW q (k + 1)).length * 8 ≤ _; omega
      rw [e2]
      ((repeat ((conv => whnf); first | refine brT ?_ | refine brF ?_)); conv => whnf)
      subst hK
      refine round_endR [.old 0, .old 3] (k + 1) hlt (by omega) ⟨?_, ⟨rfl, rfl, rfl, rfl, trivial⟩, rfl⟩
      ((repeat ((conv => whnf); first | refine ⟨rfl, e, ?_⟩ | refine ⟨rfl, rfl, ?_⟩)); trivial)
    · rw [g2, List.append_nil] at hw
      have e2 : rowW q k = rowW q (k + 1) := by unfold rowW; rw [hw]
      have e3 : LV.hs 1 (rowW q k).length = LV.hs 1 (rowW q (k + 1)).length := by rw [e2]
      ((repeat ((conv => whnf); first | refine brT ?_ | refine brF ?_)); conv => whnf)
      subst hK
      refine round_endR [.old 0, .old 1] (k + 1) hlt (by omega) ⟨?_, ⟨rfl, rfl, rfl, congrArg (Blk.arr 3 1) e2, trivial⟩, rfl⟩
      repeat ((conv => whnf); first | refine ⟨rfl, e, ?_⟩ | refine ⟨rfl, e3, ?_⟩ | refine ⟨rfl, rfl, ?_⟩)
      trivial
  have h4 : k = ps.length := by rw [ltI_f] at g1; omega
  subst h4
  subst hK
  ((repeat ((conv => whnf); first | refine brT ?_ | refine brF ?_)); conv => whnf)
  exact ⟨[.hs 0 (rowW q ps.length).length], rfl, rfl, .inr ⟨[.old 1], ⟨rfl, rfl, trivial⟩, ⟨rfl, rfl, trivial⟩, rfl⟩⟩
theorem common_h (ps : List Per) (us : List Uni) (a b : Nat) (hf : famOk ps us = true) (ha : a < ps.length) (hb : b < ps.length) :
    HSpec env.P 142 [famLV ps us, upL ps, .int .i64 (a : Int), .int .i64 (b : Int)] [] (.hs 0 (rowW (comQ ps a b) ps.length).length) [.arr 3 1 (rowW (comQ ps a b) ps.length)] := by
  refine HSpec_of_code (E := env.x [80] 0) env_ok.x (fn := Try.f142) Try.func142 rfl Try.call142 _ _ _ _ ?_
  have hw := people3_h ps us 167 (upL ps) (.int .i64 (a : Int)) (.int .i64 (b : Int)) (comQ ps a b) (fam_40 hf) (fun i hi => common1_spec (fam_pi hf) (fam_sh hf) ha hb hi)
  unfold upL at hw ⊢
  ((repeat ((conv => whnf); first | refine brT ?_ | refine brF ?_)); conv => whnf)
  refine ⟨[], _, _, _, _, hw, rfl, rfl, rfl, ⟨rfl, flats_rowW _ _, trivial⟩, ?_⟩
  ((repeat ((conv => whnf); first | refine brT ?_ | refine brF ?_)); conv => whnf)
  exact ⟨[.hs 0 (rowW (comQ ps a b) ps.length).length], rfl, rfl, .inr ⟨[.old 4], ⟨rfl, rfl, trivial⟩, ⟨rfl, rfl, trivial⟩, rfl⟩⟩
end Go.Proofs.Ytgkjafmmekjjlaa
