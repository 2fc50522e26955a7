/- Contracts of functions of the program and of its model, told over readings. -/
import Derived.Test.YtgkjafmmekjjlaaGreatCWGB
import Derived.Test.YtgkjafmmekjjlaaGreatCWGA
import Derived.Test.YtgkjafmmekjjlaaGreatCLgN
import Derived.Test.YtgkjafmmekjjlaaGreatCLgPM
import Derived.Test.YtgkjafmmekjjlaaGreatCLgMF
import Derived.Test.YtgkjafmmekjjlaaGreatCLgWS
set_option maxHeartbeats 6400000
set_option maxRecDepth 10000
set_option linter.unusedVariables false
set_option linter.unusedSimpArgs false
set_option linter.unusedSectionVars false
namespace Go.Proofs.YtgkjafmmekjjlaaGreat
open Go.Lg
def isPa (ps : List Per) (x r : Nat) : Prop := ∃ h : x < ps.length, ps[x].father = (r : Int) ∨ ps[x].mother = (r : Int)
inductive UpN (ps : List Per) : Nat → Nat → Nat → Prop
  | zero (p : Nat) : UpN ps 0 p p
  | step {n p r q : Nat} : isPa ps p r → UpN ps n r q → UpN ps (n + 1) p q
theorem UpN.snoc {ps : List Per} {n p x q : Nat} (h : UpN ps n p x) (hx : isPa ps x q) : UpN ps (n + 1) p q := by
  induction h with
  | zero p => exact .step hx (.zero q)
  | step h1 h2 ih => exact .step h1 (ih hx)
theorem UpN.last {ps : List Per} {n p q : Nat} (h : UpN ps (n + 1) p q) : ∃ x, UpN ps n p x ∧ isPa ps x q := by
  induction n generalizing p with
  | zero =>
    cases h with
    | step h1 h2 => cases h2 with | zero => exact ⟨p, .zero p, h1⟩
  | succ n ih =>
    cases h with
    | step h1 h2 =>
      obtain ⟨x, hx, hq⟩ := ih h2
      exact ⟨x, .step h1 hx, hq⟩
theorem isPa_lt {ps : List Per} (hp : parsIn ps) {x r : Nat} (h : isPa ps x r) : r < x := by
  obtain ⟨hx, h⟩ := h
  have := hp x hx
  rcases h with h | h
  · rcases this.1 with h1 | h1 <;> omega
  · rcases this.2 with h1 | h1 <;> omega
theorem UpN.le {ps : List Per} (hp : parsIn ps) {n p q : Nat} (h : UpN ps n p q) : q + n ≤ p := by
  induction h with
  | zero p => omega
  | step h1 h2 ih => have := isPa_lt hp h1; omega
theorem UpN.lt {ps : List Per} {n p q : Nat} (h : UpN ps n p q) (hq : q < ps.length) (h0 : n ≠ 0) : p < ps.length := by
  cases h with
  | zero => exact absurd rfl h0
  | step h1 _ => exact h1.1
theorem UpN.add {ps : List Per} {n p x : Nat} (h : UpN ps n p x) {m q : Nat} (k : UpN ps m x q) : UpN ps (n + m) p q := by
  induction h with
  | zero p => rw [Nat.zero_add]; exact k
  | step h1 h2 ih => rw [Nat.add_right_comm]; exact .step h1 (ih k)
def dpt (ps : List Per) (i : Nat) : Int := (depths ps).getD i 0
theorem depTo_get (ps : List Per) {i k : Nat} (h : i < k) : ∀ n, k ≤ n → (depTo ps n).getD i 0 = (depTo ps k).getD i 0 := by
  intro n hn
  induction n with
  | zero => omega
  | succ n ih =>
    rcases Nat.lt_or_ge n k with h1 | h1
    · have : k = n + 1 := by omega
      subst this; rfl
    · have e := ih h1
      rw [← e]
      simp only [depTo, List.getD_eq_getElem?_getD]
      rw [List.getElem?_append_left (by rw [depTo_len]; omega)]
theorem dpt_rec {ps : List Per} {i : Nat} (h : i < ps.length) : dpt ps i = dep2 (depTo ps i) ps[i] := by
  unfold dpt depths
  rw [depTo_get ps (i := i) (k := i + 1) (by omega) ps.length (by omega), depTo_succ h, List.getD_eq_getElem?_getD, List.getElem?_append_right (by rw [depTo_len]; exact Nat.le_refl _), depTo_len, Nat.sub_self]
  rfl
theorem dpt_par {ps : List Per} (hp : parsIn ps) {x r : Nat} (h : isPa ps x r) : dpt ps r + 1 ≤ dpt ps x := by
  have hr := isPa_lt hp h
  obtain ⟨hx, h⟩ := h
  have e : dep (depTo ps x) (r : Int) = dpt ps r + 1 := by
    unfold dep
    rw [leI_t.2 (by omega : (0 : Int) ≤ (r : Int))]
    show (depTo ps x).getD r 0 + 1 = _
    unfold dpt depths
    rw [depTo_get ps hr ps.length (by omega)]
  rw [dpt_rec hx]
  unfold dep2 maxI
  rcases h with h | h
  · rw [h, e]; split <;> omega
  · rw [h, e]; split <;> omega
theorem dpt_range {ps : List Per} (i : Nat) : 0 ≤ dpt ps i := by
  unfold dpt
  rw [List.getD_eq_getElem?_getD]
  cases e : (depths ps)[i]? with
  | none => exact Int.le_refl _
  | some v => exact (depTo_range ps _ v (List.mem_of_getElem? e)).1
theorem dpt_small {ps : List Per} (h : shallow (depths ps) = true) (i : Nat) : dpt ps i ≤ 10 := by
  unfold dpt
  rw [List.getD_eq_getElem?_getD]
  cases e : (depths ps)[i]? with
  | none => show (0 : Int) ≤ 10; omega
  | some v =>
    unfold shallow at h
    exact leI_t.1 (List.all_eq_true.1 h v (List.mem_of_getElem? e))
theorem UpN.dpt {ps : List Per} (hp : parsIn ps) {n p q : Nat} (h : UpN ps n p q) : dpt ps q + n ≤ dpt ps p := by
  induction h with
  | zero p => simp
  | step h1 h2 ih => have := dpt_par hp h1; push_cast; omega
theorem UpN.small {ps : List Per} (hp : parsIn ps) (hs : shallow (depths ps) = true) {n p q : Nat} (h : UpN ps n p q) : n ≤ 10 := by
  have h1 := h.dpt hp
  have h2 := dpt_small hs p
  have h3 := dpt_range (ps := ps) q
  omega
def isLeast (ps : List Per) (p q : Nat) (m : Int) : Prop := (∀ n, UpN ps n p q → 0 ≤ m ∧ m ≤ n) ∧ (m = -1 ∨ (0 ≤ m ∧ UpN ps m.toNat p q))
theorem isLeast.zero {ps : List Per} {p q : Nat} {m : Int} (h : isLeast ps p q m) : m = 0 ↔ p = q := by
  constructor
  · intro e
    subst e
    rcases h.2 with h2 | ⟨_, h3⟩
    · omega
    · cases h3; rfl
  · intro e
    subst e
    have := h.1 0 (.zero p); omega
theorem isLeast.range {ps : List Per} {p q : Nat} {m : Int} (h : isLeast ps p q m) : -1 ≤ m := by
  rcases h.2 with h | ⟨h, _⟩ <;> omega
theorem known_pa {ps : List Per} (hp : parsIn ps) {x : Nat} (h : x < ps.length) {v : Int} : v ∈ known ps[x] ↔ ∃ r : Nat, v = r ∧ isPa ps x r := by
  have := hp x h
  unfold known notNone
  simp only [List.mem_filter, List.mem_cons, List.not_mem_nil, or_false, notB_t, eqI_f]
  constructor
  · rintro ⟨h1, h2⟩
    have h0 : 0 ≤ v := by
      rcases h1 with h1 | h1
      · rcases this.1 with k | k <;> omega
      · rcases this.2 with k | k <;> omega
    refine ⟨v.toNat, by omega, h, ?_⟩
    rcases h1 with h1 | h1
    · exact .inl (by omega)
    · exact .inr (by omega)
  · rintro ⟨r, rfl, _, h1⟩
    refine ⟨?_, by omega⟩
    rcases h1 with h1 | h1
    · exact .inl h1.symm
    · exact .inr h1.symm
def rlx (o : List Int) (d : Int) (q : Int) : List Int := match ltI (o.getD q.toNat 0) 0 || ltI d (o.getD q.toNat 0) with | true => o.set q.toNat d | false => o
def rlxs (o : List Int) (d : Int) (qs : List Int) : List Int := qs.foldl (fun o q => rlx o d q) o
def relax (ps : List Per) (o : List Int) (x : Nat) : List Int := match ltI (o.getD x 0) 0 with
  | true => o
  | false => match ps[x]? with | some p => rlxs o (o.getD x 0 + 1) (known p) | none => o
def upTo (ps : List Per) (p : Nat) : Nat → List Int
  | 0 => (List.replicate ps.length (-1)).set p 0
  | j + 1 => relax ps (upTo ps p j) (ps.length - 1 - j)
def upS (ps : List Per) (p : Nat) : List Int := upTo ps p ps.length
theorem rlx_len (o : List Int) (d q : Int) : (rlx o d q).length = o.length := by unfold rlx; split <;> simp
theorem rlxs_len (d : Int) : ∀ (qs : List Int) (o : List Int), (rlxs o d qs).length = o.length
  | [], o => rfl
  | q :: qs, o => by show (rlxs (rlx o d q) d qs).length = _; rw [rlxs_len d qs, rlx_len]
theorem relax_len (ps : List Per) (o : List Int) (x : Nat) : (relax ps o x).length = o.length := by
  unfold relax; split
  · rfl
  · split
    · exact rlxs_len _ _ _
    · rfl
theorem upTo_len (ps : List Per) (p : Nat) : ∀ j, (upTo ps p j).length = ps.length
  | 0 => by simp [upTo]
  | j + 1 => by rw [upTo, relax_len, upTo_len ps p j]
theorem getD_set {o : List Int} {i j : Nat} {v : Int} (h : i < o.length) : (o.set i v).getD j 0 = if i = j then v else o.getD j 0 := by
  simp only [List.getD_eq_getElem?_getD, List.getElem?_set]
  split
  · rename_i e; subst e; simp [h]
  · rfl
structure UpInv (ps : List Per) (p x : Nat) (o : List Int) : Prop where
  len : o.length = ps.length
  own : o.getD p 0 = 0
  real : ∀ q, q < ps.length → o.getD q 0 = -1 ∨ (0 ≤ o.getD q 0 ∧ UpN ps (o.getD q 0).toNat p q)
  done : ∀ y, x ≤ y → y < ps.length → 0 ≤ o.getD y 0 → ∀ r, isPa ps y r → 0 ≤ o.getD r 0 ∧ o.getD r 0 ≤ o.getD y 0 + 1
theorem rlx_get {o : List Int} {d q : Int} (h0 : 0 ≤ q) (hq : q.toNat < o.length) (j : Nat) : (rlx o d q).getD j 0 = if q.toNat = j ∧ (o.getD j 0 < 0 ∨ d < o.getD j 0) then d else o.getD j 0 := by
  unfold rlx
  split
  · rename_i e
    simp only [Bool.or_eq_true, ltI_t] at e
    rw [getD_set hq]
    by_cases hj : q.toNat = j
    · rw [if_pos hj, if_pos ⟨hj, by rw [← hj]; exact e⟩]
    · rw [if_neg hj, if_neg (fun h => hj h.1)]
  · rename_i e
    rw [Bool.or_eq_false_iff, ltI_f, ltI_f] at e
    rw [if_neg]
    rintro ⟨rfl, h⟩
    omega
theorem rlxs_get {n : Nat} {d : Int} (hd : 0 ≤ d) : ∀ (qs : List Int) (o : List Int), o.length = n → (∀ v ∈ qs, 0 ≤ v ∧ v.toNat < n) →
    ∀ j, ((rlxs o d qs).getD j 0 = o.getD j 0 ∨ ((j : Int) ∈ qs ∧ (rlxs o d qs).getD j 0 = d ∧ (o.getD j 0 < 0 ∨ d < o.getD j 0))) ∧ ((j : Int) ∈ qs → 0 ≤ (rlxs o d qs).getD j 0 ∧ (rlxs o d qs).getD j 0 ≤ d)
  | [], o, _, _, j => ⟨.inl rfl, fun h => by simp at h⟩
  | q :: qs, o, hl, hq, j => by
    obtain ⟨h0, h1⟩ := hq q List.mem_cons_self
    have ih := rlxs_get hd qs (rlx o d q) (by rw [rlx_len, hl]) (fun v hv => hq v (List.mem_cons_of_mem _ hv)) j
    have e := rlx_get (d := d) h0 (by rw [hl]; exact h1) j
    change ((rlxs (rlx o d q) d qs).getD j 0 = o.getD j 0 ∨ ((j : Int) ∈ q :: qs ∧ (rlxs (rlx o d q) d qs).getD j 0 = d ∧ _)) ∧ ((j : Int) ∈ q :: qs → 0 ≤ (rlxs (rlx o d q) d qs).getD j 0 ∧ (rlxs (rlx o d q) d qs).getD j 0 ≤ d)
    obtain ⟨i1, i2⟩ := ih
    generalize (rlxs (rlx o d q) d qs).getD j 0 = R at i1 i2 ⊢
    by_cases hj : q.toNat = j
    · have hm : (j : Int) ∈ q :: qs := by rw [show (j : Int) = q by omega]; exact List.mem_cons_self
      by_cases hc : o.getD j 0 < 0 ∨ d < o.getD j 0
      · rw [if_pos ⟨hj, hc⟩] at e
        rw [e] at i1
        have : R = d := by rcases i1 with i1 | i1 <;> omega
        exact ⟨.inr ⟨hm, this, hc⟩, fun _ => by omega⟩
      · rw [if_neg (fun h => hc h.2)] at e
        rw [e] at i1
        have hR : R = o.getD j 0 := by rcases i1 with i1 | ⟨_, _, i1⟩; exact i1; exact absurd i1 hc
        exact ⟨.inl hR, fun _ => by omega⟩
    · rw [if_neg (fun h => hj h.1)] at e
      rw [e] at i1
      have hne : (j : Int) ≠ q := by omega
      refine ⟨?_, fun h => i2 ?_⟩
      · rcases i1 with i1 | ⟨h, i1⟩
        · exact .inl i1
        · exact .inr ⟨List.mem_cons_of_mem _ h, i1⟩
      · rcases List.mem_cons.1 h with h | h
        · exact absurd h hne
        · exact h
theorem kn_in {ps : List Per} (hp : parsIn ps) {x : Nat} (h : x < ps.length) : ∀ v ∈ known ps[x], 0 ≤ v ∧ v.toNat < x := fun v hv => by
  obtain ⟨r, rfl, hr⟩ := (known_pa hp h).1 hv
  have := isPa_lt hp hr
  omega
theorem UpInv.step {ps : List Per} (hp : parsIn ps) {p x : Nat} {o : List Int} (hx : x < ps.length) (h : UpInv ps p (x + 1) o) : UpInv ps p x (relax ps o x) := by
  have hl : (relax ps o x).length = ps.length := by rw [relax_len, h.len]
  unfold relax at hl ⊢
  split at hl
  · rename_i hneg
    rw [ltI_t] at hneg
    refine ⟨h.len, h.own, h.real, fun y hy hyl hy0 => ?_⟩
    rcases Nat.lt_or_ge x y with h1 | h1
    · exact h.done y h1 hyl hy0
    · have : y = x := by omega
      subst this; omega
  · rename_i hpos
    rw [ltI_f] at hpos
    rw [List.getElem?_eq_getElem hx] at hl ⊢
    have hk := kn_in hp hx
    have g := rlxs_get (n := ps.length) (d := o.getD x 0 + 1) (by omega) (known ps[x]) o h.len (fun v hv => ⟨(hk v hv).1, by have := (hk v hv).2; omega⟩)
    have hsame : ∀ j, x ≤ j → (rlxs o (o.getD x 0 + 1) (known ps[x])).getD j 0 = o.getD j 0 := fun j hj => by
      rcases (g j).1 with e | ⟨e, _⟩
      · exact e
      · have := hk _ e; omega
    have hupx : UpN ps (o.getD x 0).toNat p x := by
      rcases h.real x hx with e | e
      · omega
      · exact e.2
    refine ⟨hl, ?_, ?_, ?_⟩
    · rcases (g p).1 with e | ⟨_, e, e2⟩
      · rw [e]; exact h.own
      · rw [h.own] at e2; omega
    · intro q hq
      rcases (g q).1 with e | ⟨hm, e, _⟩
      · show (rlxs o (o.getD x 0 + 1) (known ps[x])).getD q 0 = -1 ∨ _
        rw [e]; exact h.real q hq
      · right
        show 0 ≤ (rlxs o (o.getD x 0 + 1) (known ps[x])).getD q 0 ∧ _
        rw [e]
        obtain ⟨r, hr, hpa⟩ := (known_pa hp hx).1 hm
        have hqr : q = r := by omega
        subst hqr
        refine ⟨by omega, ?_⟩
        have := hupx.snoc hpa
        rwa [show (o.getD x 0 + 1).toNat = (o.getD x 0).toNat + 1 by omega]
    · intro y hy hyl hy0 r hr
      show 0 ≤ (rlxs o (o.getD x 0 + 1) (known ps[x])).getD r 0 ∧ (rlxs o (o.getD x 0 + 1) (known ps[x])).getD r 0 ≤ (rlxs o (o.getD x 0 + 1) (known ps[x])).getD y 0 + 1
      have hy0' : 0 ≤ o.getD y 0 := by rw [← hsame y hy]; exact hy0
      rw [hsame y hy]
      rcases Nat.lt_or_ge x y with h1 | h1
      · obtain ⟨d1, d2⟩ := h.done y h1 hyl hy0' r hr
        rcases (g r).1 with e | ⟨hm, e, e2⟩
        · rw [e]; exact ⟨d1, d2⟩
        · rw [e]; omega
      · have : y = x := by omega
        subst this
        exact (g r).2 ((known_pa hp hx).2 ⟨r, rfl, hr⟩)
theorem upTo_inv {ps : List Per} (hp : parsIn ps) {p : Nat} (h : p < ps.length) : ∀ j, j ≤ ps.length → UpInv ps p (ps.length - j) (upTo ps p j)
  | 0, _ => by
    have hl : p < (List.replicate ps.length (-1 : Int)).length := by simp [h]
    refine ⟨upTo_len ps p 0, ?_, ?_, fun y hy hyl => by omega⟩
    · show ((List.replicate ps.length (-1 : Int)).set p 0).getD p 0 = 0
      rw [getD_set hl, if_pos rfl]
    · intro q hq
      show ((List.replicate ps.length (-1 : Int)).set p 0).getD q 0 = -1 ∨ (0 ≤ ((List.replicate ps.length (-1 : Int)).set p 0).getD q 0 ∧ UpN ps (((List.replicate ps.length (-1 : Int)).set p 0).getD q 0).toNat p q)
      rw [getD_set hl]
      split
      · rename_i e; subst e; exact .inr ⟨by omega, .zero p⟩
      · left; simp [List.getD_eq_getElem?_getD, List.getElem?_replicate, hq]
  | j + 1, hj => by
    have := upTo_inv hp h j (by omega)
    rw [show ps.length - j = (ps.length - 1 - j) + 1 by omega] at this
    rw [show ps.length - (j + 1) = ps.length - 1 - j by omega]
    exact this.step hp (by omega)
theorem upS_len (ps : List Per) (p : Nat) : (upS ps p).length = ps.length := upTo_len ps p _
theorem upS_least {ps : List Per} (hp : parsIn ps) {p q : Nat} (h : p < ps.length) (hq : q < ps.length) : isLeast ps p q ((upS ps p).getD q 0) := by
  have inv := upTo_inv hp h ps.length (Nat.le_refl _)
  rw [Nat.sub_self] at inv
  refine ⟨fun n => ?_, inv.real q hq⟩
  show UpN ps n p q → _
  unfold upS
  induction n generalizing q with
  | zero =>
    intro hu
    cases hu
    rw [inv.own]; simp
  | succ n ih =>
    intro hu
    obtain ⟨x, hx, hpa⟩ := hu.last
    have i := ih hpa.1 hx
    have := inv.done x (Nat.zero_le _) hpa.1 i.1 q hpa
    push_cast
    omega
def upd (ps : List Per) (p q : Nat) : Int := (upS ps p).getD q 0
def clRow (row pr : List Int) : List Int := List.zipWith (fun a b => minI a (b + 1)) row pr
def clRow0 (up : List (List Int)) (n k : Nat) (qs : List Int) : List Int := qs.foldl (fun row x => clRow row (up.getD x.toNat [])) (List.replicate n 11)
def clTo (ps : List Per) : Nat → List (List Int)
  | 0 => []
  | k + 1 => clTo ps k ++ [(clRow0 (clTo ps k) ps.length k (match ps[k]? with | some p => known p | none => [])).set k 0]
def clT (ps : List Per) : List (List Int) := clTo ps ps.length
def tooF (m : Int) : Int := match ltI m 0 with | true => 11 | false => m
theorem clTo_len (ps : List Per) : ∀ k, (clTo ps k).length = k
  | 0 => rfl
  | k + 1 => by simp [clTo, clTo_len ps k]
theorem clRow_get {row pr : List Int} {j : Nat} (h1 : j < row.length) (h2 : j < pr.length) : (clRow row pr).getD j 0 = minI (row.getD j 0) (pr.getD j 0 + 1) := by
  unfold clRow
  simp [List.getD_eq_getElem?_getD, List.getElem?_zipWith, h1, h2]
theorem clRow_len {row pr : List Int} {n : Nat} (h1 : row.length = n) (h2 : pr.length = n) : (clRow row pr).length = n := by
  unfold clRow; simp [List.length_zipWith, h1, h2]
theorem minI_le_left (a b : Int) : minI a b ≤ a := by unfold minI; split <;> omega
theorem minI_le_right (a b : Int) : minI a b ≤ b := by unfold minI; split <;> omega
theorem minI_cases (a b : Int) : minI a b = a ∨ minI a b = b := by unfold minI; split <;> simp
def rowGood (ps : List Per) (k : Nat) (row : List Int) : Prop := row.length = ps.length ∧ ∀ q, q < ps.length → row.getD q 0 = tooF (upd ps k q)
theorem clFold {up : List (List Int)} {n j : Nat} (hj : j < n) : ∀ (qs : List Int) (row : List Int), row.length = n → (∀ x ∈ qs, (up.getD x.toNat []).length = n) →
    (qs.foldl (fun row x => clRow row (up.getD x.toNat [])) row).length = n ∧
    (qs.foldl (fun row x => clRow row (up.getD x.toNat [])) row).getD j 0 ≤ row.getD j 0 ∧
    (∀ x ∈ qs, (qs.foldl (fun row x => clRow row (up.getD x.toNat [])) row).getD j 0 ≤ (up.getD x.toNat []).getD j 0 + 1) ∧
    ((qs.foldl (fun row x => clRow row (up.getD x.toNat [])) row).getD j 0 = row.getD j 0 ∨ ∃ x ∈ qs, (qs.foldl (fun row x => clRow row (up.getD x.toNat [])) row).getD j 0 = (up.getD x.toNat []).getD j 0 + 1)
  | [], row, hl, _ => ⟨hl, Int.le_refl _, fun _ h => by simp at h, .inl rfl⟩
  | x :: qs, row, hl, hq => by
    have hx := hq x List.mem_cons_self
    obtain ⟨i1, i2, i3, i4⟩ := clFold hj qs (clRow row (up.getD x.toNat [])) (clRow_len hl hx) (fun y hy => hq y (List.mem_cons_of_mem _ hy))
    have e := clRow_get (row := row) (pr := up.getD x.toNat []) (j := j) (by omega) (by omega)
    have l1 := minI_le_left (row.getD j 0) ((up.getD x.toNat []).getD j 0 + 1)
    have l2 := minI_le_right (row.getD j 0) ((up.getD x.toNat []).getD j 0 + 1)
    have l3 := minI_cases (row.getD j 0) ((up.getD x.toNat []).getD j 0 + 1)
    show (qs.foldl _ (clRow row (up.getD x.toNat []))).length = n ∧ (qs.foldl _ (clRow row (up.getD x.toNat []))).getD j 0 ≤ row.getD j 0 ∧
      (∀ y ∈ x :: qs, (qs.foldl _ (clRow row (up.getD x.toNat []))).getD j 0 ≤ (up.getD y.toNat []).getD j 0 + 1) ∧
      ((qs.foldl _ (clRow row (up.getD x.toNat []))).getD j 0 = row.getD j 0 ∨ ∃ y ∈ x :: qs, (qs.foldl _ (clRow row (up.getD x.toNat []))).getD j 0 = (up.getD y.toNat []).getD j 0 + 1)
    refine ⟨i1, by omega, fun y hy => ?_, ?_⟩
    · rcases List.mem_cons.1 hy with rfl | hy
      · omega
      · exact i3 y hy
    · rcases i4 with i4 | ⟨y, hy, i4⟩
      · rcases l3 with l3 | l3
        · left; rw [i4, e, l3]
        · right; exact ⟨x, List.mem_cons_self, by rw [i4, e, l3]⟩
      · exact .inr ⟨y, List.mem_cons_of_mem _ hy, i4⟩
theorem tooF_neg {m : Int} (h : m < 0) : tooF m = 11 := by unfold tooF; rw [ltI_t.2 h]
theorem tooF_pos {m : Int} (h : 0 ≤ m) : tooF m = m := by unfold tooF; rw [ltI_f.2 (by omega)]
theorem upd_least {ps : List Per} (hp : parsIn ps) {p q : Nat} (h : p < ps.length) (hq : q < ps.length) : isLeast ps p q (upd ps p q) := upS_least hp h hq
theorem upd_small {ps : List Per} (hp : parsIn ps) (hs : shallow (depths ps) = true) {p q : Nat} (h : p < ps.length) (hq : q < ps.length) : -1 ≤ upd ps p q ∧ upd ps p q ≤ 10 := by
  have hl := upd_least hp h hq
  refine ⟨hl.range, ?_⟩
  rcases hl.2 with h2 | ⟨h2, h3⟩
  · omega
  · have := h3.small hp hs; omega
theorem clTo_get (ps : List Per) {i k : Nat} (h : i < k) : ∀ n, k ≤ n → (clTo ps n).getD i [] = (clTo ps k).getD i [] := by
  intro n hn
  induction n with
  | zero => omega
  | succ n ih =>
    rcases Nat.lt_or_ge n k with h1 | h1
    · have : k = n + 1 := by omega
      subst this; rfl
    · have e := ih h1
      rw [← e]
      simp only [clTo, List.getD_eq_getElem?_getD]
      rw [List.getElem?_append_left (by rw [clTo_len]; omega)]
theorem clTo_at {ps : List Per} {k : Nat} (h : k < ps.length) : (clTo ps (k + 1)).getD k [] = (clRow0 (clTo ps k) ps.length k (known ps[k])).set k 0 := by
  simp only [clTo, List.getD_eq_getElem?_getD]
  rw [List.getElem?_append_right (by rw [clTo_len]; exact Nat.le_refl _), clTo_len, Nat.sub_self, List.getElem?_eq_getElem h]
  rfl
theorem cl_good {ps : List Per} (hp : parsIn ps) (hs : shallow (depths ps) = true) : ∀ k, k ≤ ps.length → ∀ i, i < k → rowGood ps i ((clTo ps k).getD i []) := by
  intro k
  induction k with
  | zero => intro _ i h; omega
  | succ k ih =>
    intro hk i hi
    rcases Nat.lt_or_ge i k with h1 | h1
    · rw [clTo_get ps h1 (k + 1) (by omega)]; exact ih (by omega) i h1
    · have : i = k := by omega
      subst this
      have hlt : i < ps.length := by omega
      rw [clTo_at hlt]
      have hk := kn_in hp hlt
      have hrow : ∀ x ∈ known ps[i], rowGood ps x.toNat ((clTo ps i).getD x.toNat []) := fun x hx => ih (by omega) _ (hk x hx).2
      have hlen : (clRow0 (clTo ps i) ps.length i (known ps[i])).length = ps.length := by
        have := clFold (up := clTo ps i) (n := ps.length) (j := i) hlt (known ps[i]) (List.replicate ps.length 11) (by simp) (fun x hx => (hrow x hx).1)
        exact this.1
      refine ⟨by rw [List.length_set]; exact hlen, fun q hq => ?_⟩
      rw [getD_set (by rw [hlen]; exact hlt)]
      split
      · rename_i e
        subst e
        rw [(upd_least hp hlt hlt).zero.2 rfl, tooF_pos (Int.le_refl 0)]
      · rename_i hne
        obtain ⟨_, c1, c2, c3⟩ := clFold (up := clTo ps i) (n := ps.length) (j := q) hq (known ps[i]) (List.replicate ps.length 11) (by simp) (fun x hx => (hrow x hx).1)
        have e11 : (List.replicate ps.length (11 : Int)).getD q 0 = 11 := by simp [List.getD_eq_getElem?_getD, List.getElem?_replicate, hq]
        rw [e11] at c1 c3
        change (clRow0 (clTo ps i) ps.length i (known ps[i])).getD q 0 ≤ 11 at c1
        change (clRow0 (clTo ps i) ps.length i (known ps[i])).getD q 0 = 11 ∨ ∃ x ∈ known ps[i], (clRow0 (clTo ps i) ps.length i (known ps[i])).getD q 0 = _ at c3
        have c2' : ∀ x ∈ known ps[i], (clRow0 (clTo ps i) ps.length i (known ps[i])).getD q 0 ≤ tooF (upd ps x.toNat q) + 1 := fun x hx => by
          rw [← (hrow x hx).2 q hq]; exact c2 x hx
        have c3' : (clRow0 (clTo ps i) ps.length i (known ps[i])).getD q 0 = 11 ∨ ∃ x ∈ known ps[i], (clRow0 (clTo ps i) ps.length i (known ps[i])).getD q 0 = tooF (upd ps x.toNat q) + 1 := by
          rcases c3 with c3 | ⟨x, hx, c3⟩
          · exact .inl c3
          · exact .inr ⟨x, hx, by rw [c3, (hrow x hx).2 q hq]⟩
        generalize (clRow0 (clTo ps i) ps.length i (known ps[i])).getD q 0 = v at c1 c2' c3'
        have L := upd_least hp hlt hq
        have Ls := upd_small hp hs hlt hq
        generalize upd ps i q = m at L Ls
        -- a way from a parent
        have way : ∀ x ∈ known ps[i], 0 ≤ upd ps x.toNat q → 0 ≤ m ∧ m ≤ upd ps x.toNat q + 1 := fun x hx h0 => by
          have hx2 := hk x hx
          have Lx := upd_least hp (p := x.toNat) (q := q) (by omega) hq
          rcases Lx.2 with e | ⟨_, hu⟩
          · omega
          · obtain ⟨r, hr, hpa⟩ := (known_pa hp hlt).1 hx
            have e : x.toNat = r := by omega
            rw [e] at hu h0 ⊢
            have := L.1 _ (.step hpa hu)
            omega
        rcases L.2 with hm | ⟨hm, hu⟩
        · rw [tooF_neg (by omega)]
          rcases c3' with e | ⟨x, hx, e⟩
          · exact e
          · rcases Int.lt_or_le (upd ps x.toNat q) 0 with h0 | h0
            · rw [tooF_neg h0] at e; omega
            · have := way x hx h0; omega
        · rw [tooF_pos hm]
          have hm0 : m ≠ 0 := fun e => hne (L.zero.1 e)
          obtain ⟨j, hj⟩ : ∃ j, m.toNat = j + 1 := ⟨m.toNat - 1, by omega⟩
          rw [hj] at hu
          cases hu with
          | step hpa hu =>
            rename_i r
            have hr := isPa_lt hp hpa
            have hx : (r : Int) ∈ known ps[i] := (known_pa hp hlt).2 ⟨r, rfl, hpa⟩
            have Lr := (upd_least hp (p := r) (q := q) (by omega) hq).1 _ hu
            have w := way _ hx (by simpa using Lr.1)
            have b := c2' _ hx
            simp only [Int.toNat_natCast] at w b
            rw [tooF_pos Lr.1] at b
            rcases c3' with e | ⟨x, hx, e⟩
            · omega
            · rcases Int.lt_or_le (upd ps x.toNat q) 0 with h0 | h0
              · rw [tooF_neg h0] at e; omega
              · have := way x hx h0
                rw [tooF_pos h0] at e; omega
theorem clT_good {ps : List Per} (hp : parsIn ps) (hs : shallow (depths ps) = true) {p : Nat} (h : p < ps.length) : rowGood ps p ((clT ps).getD p []) := cl_good hp hs _ (Nat.le_refl _) _ h
theorem clT_get {ps : List Per} (hp : parsIn ps) (hs : shallow (depths ps) = true) {p : Nat} (h : p < ps.length) : (clT ps)[p]? = some ((upS ps p).map tooF) := by
  have hl : p < (clT ps).length := by unfold clT; rw [clTo_len]; exact h
  have g := clT_good hp hs h
  rw [List.getD_eq_getElem?_getD, List.getElem?_eq_getElem hl] at g
  rw [List.getElem?_eq_getElem hl]
  refine congrArg some ?_
  change rowGood ps p (clT ps)[p] at g
  refine List.ext_getElem (by rw [g.1, List.length_map, upS_len]) fun q h1 h2 => ?_
  have hq : q < ps.length := by rw [← g.1]; exact h1
  have := g.2 q hq
  rw [List.getD_eq_getElem?_getD, List.getElem?_eq_getElem h1] at this
  have h3 : q < (upS ps p).length := by rw [upS_len]; exact hq
  rw [List.getElem_map]
  have e : upd ps p q = (upS ps p)[q] := by unfold upd; rw [List.getD_eq_getElem?_getD, List.getElem?_eq_getElem h3]; rfl
  rw [← e]; exact this
end Go.Proofs.YtgkjafmmekjjlaaGreat
namespace Go.Proofs.YtgkjafmmekjjlaaGreat
open Go.Lg
def rdc : Nat → Nat → Nat × Nat
  | n, 0 => (n, 0)
  | n, e + 1 => if n % 2 = 0 then rdc (n / 2) e else (n, e + 1)
def rd (v : Nat) : Nat × Nat := rdc v 30
end Go.Proofs.YtgkjafmmekjjlaaGreat
namespace Go.Proofs.YtgkjafmmekjjlaaGreat
open Go.Lg
def wholeN : Nat := 1073741824
def kAt (T : List (List Nat)) (x y : Nat) : Nat := (T.getD (max x y) []).getD (min x y) 0
def kSum (T : List (List Nat)) (b : Nat) (qs : List Int) : Nat := (qs.map fun q => kAt T q.toNat b / 2).sum
def kPar (T : List (List Nat)) (p : Per) : Nat := match eqI p.father (-1) || eqI p.mother (-1) with | true => 0 | false => kAt T p.father.toNat p.mother.toNat
def kRow (T : List (List Nat)) (k : Nat) (p : Per) : List Nat := ((List.range k).map fun b => kSum T b (known p)) ++ [wholeN / 2 + kPar T p / 2]
def kTo (ps : List Per) : Nat → List (List Nat)
  | 0 => []
  | k + 1 => kTo ps k ++ [match ps[k]? with | some p => kRow (kTo ps k) k p | none => []]
structure KInv (ps : List Per) (k : Nat) : Prop where
  dvd : ∀ a b, a < k → b < k → 2 ^ (29 - (dpt ps a).toNat - (dpt ps b).toNat) ∣ kAt (kTo ps k) a b
  le : ∀ a b, a < k → b < k → kAt (kTo ps k) a b ≤ wholeN
theorem known_two (p : Per) : (known p).length ≤ 2 := by
  unfold known; exact Nat.le_trans (List.length_filter_le _ _) (by simp)
end Go.Proofs.YtgkjafmmekjjlaaGreat
namespace Go.Proofs.YtgkjafmmekjjlaaGreat
open Go.Lg
def digits (n : Nat) (acc : ByteArray) : ByteArray := if h : n = 0 then acc else digits (n / 10) (bytesOf [IntKind.u8.wrap (IntKind.i64.wrap (48 + (n : Int).tmod 10))] ++ acc)
termination_by n
decreasing_by omega
def mText (k : Nat) : ByteArray := if k = 0 then ⟨#[109, 48]⟩ else ⟨#[109]⟩ ++ digits k ⟨#[]⟩
theorem bytesOf1_size (n : Int) : (bytesOf [n]).size = 1 := by unfold bytesOf; rw [bytesOf_size]; rfl
theorem digits_zero (acc : ByteArray) : digits 0 acc = acc := by rw [digits]; simp
theorem digits_pos {n : Nat} (h : 0 < n) (acc : ByteArray) : digits n acc = digits (n / 10) (bytesOf [IntKind.u8.wrap (IntKind.i64.wrap (48 + (n : Int).tmod 10))] ++ acc) := by
  rw [digits, dif_neg (by omega)]
theorem markText_spec (k : Nat) (hk : k ≤ 4611686018427387904) : FSpec env.P 96 [.int .i64 (k : Int)] (.str (mText k)) := by
  refine FSpec_of_code env_ok (fn := Tryz.f96) Tryz.func96 rfl Tryz.call96 _ _ ?_
  ((repeat ((conv => whnf); first | refine brT ?_ | refine brF ?_)); conv => whnf)
  (refine ⟨fun h => ?_, fun h => ?_⟩ <;> rw [h])
  · have : k = 0 := by rw [leI_t] at h; omega
    subst this
    ((repeat ((conv => whnf); first | refine brT ?_ | refine brF ?_)); conv => whnf)
    exact fin (by simp [mText])
  have hpos : 0 < k := by rw [leI_f] at h; omega
  ((repeat ((conv => whnf); first | refine brT ?_ | refine brF ?_)); conv => whnf)
  refine loop_rule (α := Nat × ByteArray) (fun x => [(0, .int .i64 (x.1 : Int)), (3, .str x.2)]) (fun x => []) (fun x => x.1) (fun x => digits x.1 x.2 = digits k ⟨#[]⟩ ∧ 10 ^ x.2.size * x.1 ≤ k ∧ x.1 ≤ k ∧ x.2.size ≤ 20) (k, ⟨#[]⟩) ⟨rfl, by simp [ByteArray.size], Nat.le_refl _, by simp [ByteArray.size]⟩ ?_ ?_
  · refine ⟨?_, trivial, rfl, rfl⟩
    ((repeat ((conv => whnf); refine ⟨rfl, ?_⟩)); trivial)
  rintro ⟨n, acc⟩ ⟨h1, h2, h3, h4⟩
  ((repeat ((conv => whnf); first | refine brT ?_ | refine brF ?_)); conv => whnf)
  (refine ⟨fun g1 => ?_, fun g1 => ?_⟩ <;> rw [g1])
  · have hn : 0 < n := by rw [ltI_t] at g1; omega
    have hs : acc.size ≤ 18 := by
      have h5 : 10 ^ acc.size ≤ k := Nat.le_trans (Nat.le_mul_of_pos_right _ hn) h2
      rcases Nat.lt_or_ge acc.size 19 with h | h
      · omega
      · have h6 : 10 ^ 19 ≤ 10 ^ acc.size := Nat.pow_le_pow_right (by decide) h
        have h7 : (10 : Nat) ^ 19 = 10000000000000000000 := by decide
        omega
    ((repeat ((conv => whnf); first | refine brT ?_ | refine brF ?_)); conv => whnf)
    refine ⟨by decide, ?_⟩
    ((repeat ((conv => whnf); first | refine brT ?_ | refine brF ?_)); conv => whnf)
    refine ⟨rfl, [IntKind.u8.wrap (IntKind.i64.wrap (48 + (n : Int).tmod 10))], rfl, ?_⟩
    ((repeat ((conv => whnf); first | refine brT ?_ | refine brF ?_)); conv => whnf)
    refine ⟨by rw [bytesOf1_size]; unfold Go.maxLen; omega, ?_⟩
    ((repeat ((conv => whnf); first | refine brT ?_ | refine brF ?_)); conv => whnf)
    refine ⟨by decide, ?_⟩
    have e : LV.int .i64 (IntKind.i64.wrap ((n : Int).tdiv 10)) = LV.int .i64 ((n / 10 : Nat) : Int) := by
      rw [show (n : Int).tdiv 10 = ((n / 10 : Nat) : Int) by rw [Int.tdiv_eq_ediv_of_nonneg (by omega)]; omega, wrap64 (by omega) (by omega)]
    ((repeat ((conv => whnf); first | refine brT ?_ | refine brF ?_)); conv => whnf)
    refine round_end (n / 10, bytesOf [IntKind.u8.wrap (IntKind.i64.wrap (48 + (n : Int).tmod 10))] ++ acc) ⟨by rw [← h1, digits_pos hn], ?_, by omega, ?_⟩ (by show n / 10 < n; omega) ⟨?_, trivial, rfl, rfl⟩
    · show 10 ^ (bytesOf [IntKind.u8.wrap (IntKind.i64.wrap (48 + (n : Int).tmod 10))] ++ acc).size * (n / 10) ≤ k
      rw [ByteArray.size_append, bytesOf1_size, Nat.add_comm, Nat.pow_succ]
      refine Nat.le_trans ?_ h2
      rw [Nat.mul_assoc]
      exact Nat.mul_le_mul_left _ (Nat.mul_div_le n 10)
    · show (bytesOf [IntKind.u8.wrap (IntKind.i64.wrap (48 + (n : Int).tmod 10))] ++ acc).size ≤ 20
      rw [ByteArray.size_append, bytesOf1_size]; omega
    · ((repeat ((conv => whnf); first | refine ⟨e, ?_⟩ | refine ⟨rfl, ?_⟩)); trivial)
  · have hn : n = 0 := by rw [ltI_f] at g1; omega
    subst hn
    rw [digits_zero] at h1
    ((repeat ((conv => whnf); first | refine brT ?_ | refine brF ?_)); conv => whnf)
    refine ⟨by have h5 : acc.size ≤ 20 := h4; unfold Go.maxLen; show 1 + acc.size ≤ _; omega, ?_⟩
    ((repeat ((conv => whnf); first | refine brT ?_ | refine brF ?_)); conv => whnf)
    refine fin ?_
    unfold mText
    rw [if_neg (by omega), ← h1]
end Go.Proofs.YtgkjafmmekjjlaaGreat
namespace Go.Proofs.YtgkjafmmekjjlaaGreat
open Go.Lg
section
variable {L : List LV} {i : Nat}
theorem fw_get (h : i < L.length) (fs : List LV) : getP (.st (L.set i (.st fs))) [i] = some (.st fs) := by simp [getP, h]
theorem fw_get2 (h : i < L.length) {fs : List LV} {f : Nat} {x : LV} (hx : fs[f]? = some x) : getP (.st (L.set i (.st fs))) [i, f] = some x := by simp [getP, h, hx]
theorem fw_set (h : i < L.length) {fs : List LV} {f : Nat} {x : LV} (hx : fs[f]? = some x) (v : LV) :
    (match (L.set i (.st fs))[i]? with | some z => (L.set i (.st fs)).set i (setP z [f] v) | none => L.set i (.st fs)) = L.set i (.st (fs.set f v)) := by
  have : (L.set i (.st fs))[i]? = some (.st fs) := by simp [h]
  rw [this]
  simp only [setP, hx]
  cases x <;> simp [List.set_set]
end
def markPer (k : Nat) : Per := ⟨mText k, (k : Int) + 1, (k : Int) + 2, (k : Int) + 3, (k : Int) + 4, (k : Int) + 5⟩
def markPers (k : Nat) : Nat → List Per
  | 0 => []
  | n + 1 => markPers k n ++ [markPer (k + 6 * n)]
theorem markPers_len (k : Nat) : ∀ n, (markPers k n).length = n
  | 0 => rfl
  | n + 1 => by simp [markPers, markPers_len k n]
def rowPM (k : Nat) (ps : List Per) (i : Nat) : List LV := (markPers k i ++ ps.drop i).map Per.lv
theorem rowPM_len {k : Nat} {ps : List Per} {i : Nat} (h : i ≤ ps.length) : (rowPM k ps i).length = ps.length := by simp [rowPM, markPers_len]; omega
theorem rowPM_get {k : Nat} {ps : List Per} {i : Nat} (h : i < ps.length) : (rowPM k ps i)[i]? = some ps[i].lv := by
  unfold rowPM
  rw [List.getElem?_map, List.getElem?_append_right (by rw [markPers_len]; exact Nat.le_refl _), markPers_len, Nat.sub_self, List.getElem?_drop, Nat.add_zero, List.getElem?_eq_getElem h]
  rfl
theorem rowPM_set {k : Nat} {ps : List Per} {i : Nat} (h : i < ps.length) : (rowPM k ps i).set i (markPer (k + 6 * i)).lv = rowPM k ps (i + 1) := by
  unfold rowPM
  rw [List.drop_eq_getElem_cons h, List.map_append, List.map_cons, List.set_append_right _ _ (by simp [markPers_len])]
  simp [markPers, markPers_len]
theorem markPersonS_spec (ps : List Per) (n : Nat) (hn : n = (ps.map Per.lv).length) (k : Nat) (h1 : k + 6 * ps.length ≤ 2305843009213693952) :
    HSpec env.P 54 [.hs 0 n, .int .i64 (k : Int)] [.arr 85 6 (ps.map Per.lv)] (.int .i64 ((k + 6 * ps.length : Nat) : Int)) [.arr 85 6 ((markPers k ps.length).map Per.lv)] := by
  subst hn
  refine HSpec_of_code (E := env.x [] 1) env_ok.x (fn := Tryz.f54) Tryz.func54 rfl Tryz.call54 _ _ _ _ ?_
  ((repeat ((conv => whnf); first | refine brT ?_ | refine brF ?_)); conv => whnf)
  refine loop_rule (α := Nat) (fun i => [(5, .int .i64 (i : Int)), (1, .int .i64 ((k + 6 * i : Nat) : Int)), (0, .hs 0 (rowPM k ps i).length)]) (fun i => [.arr 85 6 (rowPM k ps i)]) (fun i => ps.length - i) (fun i => i ≤ ps.length) 0 (Nat.zero_le _) ?_ ?_
  · have e0 : ps.map Per.lv = rowPM k ps 0 := by simp [rowPM, markPers]
    have e1 : LV.hs 0 (ps.map Per.lv).length = LV.hs 0 (rowPM k ps 0).length := by rw [e0]
    refine ⟨?_, ⟨congrArg (Blk.arr 85 6) e0, trivial⟩, rfl, rfl⟩
    ((repeat ((conv => whnf); first | refine ⟨e1, ?_⟩ | refine ⟨rfl, ?_⟩)); trivial)
  intro i hi
  have hl := rowPM_len (k := k) hi
  ((repeat ((conv => whnf); first | refine brT ?_ | refine brF ?_)); conv => whnf)
  refine ⟨rfl, fun hm => ?_⟩
  have hm' : ps.length ≤ Go.maxLen := by rw [← hl]; exact hm
  ((repeat ((conv => whnf); first | refine brT ?_ | refine brF ?_)); conv => whnf)
  (refine ⟨fun g1 => ?_, fun g1 => ?_⟩ <;> rw [g1])
  · have hlt : i < ps.length := by rw [ltI_t] at g1; omega
    have e := step_i hlt hm'
    have hiL : i < (rowPM k ps i).length := by omega
    have hg := rowPM_get (k := k) hlt
    have hset := rowPM_set (k := k) hlt
    have w0 : IntKind.i64.wrap (((k + 6 * i : Nat) : Int) + 1) = ((k + 6 * i : Nat) : Int) + 1 := wrap64 (by omega) (by omega)
    have w1 : IntKind.i64.wrap (((k + 6 * i : Nat) : Int) + 1 + 1) = ((k + 6 * i : Nat) : Int) + 2 := by rw [wrap64 (by omega) (by omega)]; omega
    have w2 : IntKind.i64.wrap (((k + 6 * i : Nat) : Int) + 2 + 1) = ((k + 6 * i : Nat) : Int) + 3 := by rw [wrap64 (by omega) (by omega)]; omega
    have w3 : IntKind.i64.wrap (((k + 6 * i : Nat) : Int) + 3 + 1) = ((k + 6 * i : Nat) : Int) + 4 := by rw [wrap64 (by omega) (by omega)]; omega
    have w4 : IntKind.i64.wrap (((k + 6 * i : Nat) : Int) + 4 + 1) = ((k + 6 * i : Nat) : Int) + 5 := by rw [wrap64 (by omega) (by omega)]; omega
    have w5 : IntKind.i64.wrap (((k + 6 * i : Nat) : Int) + 5 + 1) = ((k + 6 * (i + 1) : Nat) : Int) := by rw [wrap64 (by omega) (by omega)]; omega
    have hlen : ∀ x : LV, (rowPM k ps i).length = ((rowPM k ps i).set i x).length := fun x => by simp
    generalize ps[i] = p at hg hset
    generalize hK : ((k + 6 * i : Nat) : Int) = kk at w0 w1 w2 w3 w4 w5 ⊢
    generalize hN : mText (k + 6 * i) = nm
    have hmt := markText_spec (k + 6 * i) (by omega)
    rw [hK, hN] at hmt
    have hfin : (rowPM k ps i).set i (.st [.str nm, .int .i64 (kk + 1), .int .i64 (kk + 2), .int .i64 (kk + 3), .int .i64 (kk + 4), .int .i64 (kk + 5)]) = rowPM k ps (i + 1) := by
      rw [← hset]; unfold markPer Per.lv; rw [hK, hN]
    generalize rowPM k ps i = L at hl hm hiL hg hlen hfin g1 ⊢
    have hgp : getP (.st L) [i] = some (.st [LV.str p.name, LV.int .i64 p.sex, LV.int .i64 p.father, LV.int .i64 p.mother, LV.int .i64 p.born, LV.int .i64 p.died]) := by simp [getP, hg, Per.lv]
    have hgp0 : getP (.st L) [i, 0] = some (.str p.name) := by simp [getP, hg, Per.lv]
    ((repeat ((conv => whnf); first | refine brT ?_ | refine brF ?_)); conv => whnf)
    refine ⟨_, hmt, ?_⟩
    ((repeat ((conv => whnf); first | refine brT ?_ | refine brF ?_)); conv => whnf)
    refine ⟨rfl, rfl, i, rfl, hiL, ?_⟩
    ((repeat ((conv => whnf); first | refine brT ?_ | refine brF ?_)); conv => whnf)
    refine ⟨rfl, by simp, [LV.str p.name, LV.int .i64 p.sex, LV.int .i64 p.father, LV.int .i64 p.mother, LV.int .i64 p.born, LV.int .i64 p.died], hgp, rfl, by simp, ?_⟩
    ((repeat ((conv => whnf); first | refine brT ?_ | refine brF ?_)); conv => whnf)
    refine ⟨rfl, i, [0], .str p.name, rfl, hgp0, rfl, rfl, rfl, L.set i (.st [.str nm, .int .i64 p.sex, .int .i64 p.father, .int .i64 p.mother, .int .i64 p.born, .int .i64 p.died]), by rw [hg]; rfl, ?_⟩
    ((repeat ((conv => whnf); first | refine brT ?_ | refine brF ?_)); conv => whnf)
    rw [w0]
    refine ⟨hlen _, rfl, i, rfl, by simpa using hiL, ?_⟩
    ((repeat ((conv => whnf); first | refine brT ?_ | refine brF ?_)); conv => whnf)
    refine ⟨hlen _, by simp, _, fw_get hiL _, rfl, by simp, ?_⟩
    ((repeat ((conv => whnf); first | refine brT ?_ | refine brF ?_)); conv => whnf)
    refine ⟨hlen _, i, [1], _, rfl, fw_get2 hiL rfl, rfl, rfl, rfl, _, fw_set hiL rfl (.int .i64 (kk + 1)), ?_⟩
    ((repeat ((conv => whnf); first | refine brT ?_ | refine brF ?_)); conv => whnf)
    rw [w1]
    refine ⟨hlen _, rfl, i, rfl, by simpa using hiL, ?_⟩
    ((repeat ((conv => whnf); first | refine brT ?_ | refine brF ?_)); conv => whnf)
    refine ⟨hlen _, by simp, _, fw_get hiL _, rfl, by simp, ?_⟩
    ((repeat ((conv => whnf); first | refine brT ?_ | refine brF ?_)); conv => whnf)
    refine ⟨hlen _, i, [2], _, rfl, fw_get2 hiL rfl, rfl, rfl, rfl, _, fw_set hiL rfl (.int .i64 (kk + 2)), ?_⟩
    ((repeat ((conv => whnf); first | refine brT ?_ | refine brF ?_)); conv => whnf)
    rw [w2]
    refine ⟨hlen _, rfl, i, rfl, by simpa using hiL, ?_⟩
    ((repeat ((conv => whnf); first | refine brT ?_ | refine brF ?_)); conv => whnf)
    refine ⟨hlen _, by simp, _, fw_get hiL _, rfl, by simp, ?_⟩
    ((repeat ((conv => whnf); first | refine brT ?_ | refine brF ?_)); conv => whnf)
    refine ⟨hlen _, i, [3], _, rfl, fw_get2 hiL rfl, rfl, rfl, rfl, _, fw_set hiL rfl (.int .i64 (kk + 3)), ?_⟩
    ((repeat ((conv => whnf); first | refine brT ?_ | refine brF ?_)); conv => whnf)
    rw [w3]
    refine ⟨hlen _, rfl, i, rfl, by simpa using hiL, ?_⟩
    ((repeat ((conv => whnf); first | refine brT ?_ | refine brF ?_)); conv => whnf)
    refine ⟨hlen _, by simp, _, fw_get hiL _, rfl, by simp, ?_⟩
    ((repeat ((conv => whnf); first | refine brT ?_ | refine brF ?_)); conv => whnf)
    refine ⟨hlen _, i, [4], _, rfl, fw_get2 hiL rfl, rfl, rfl, rfl, _, fw_set hiL rfl (.int .i64 (kk + 4)), ?_⟩
    ((repeat ((conv => whnf); first | refine brT ?_ | refine brF ?_)); conv => whnf)
    rw [w4]
    refine ⟨hlen _, rfl, i, rfl, by simpa using hiL, ?_⟩
    ((repeat ((conv => whnf); first | refine brT ?_ | refine brF ?_)); conv => whnf)
    refine ⟨hlen _, by simp, _, fw_get hiL _, rfl, by simp, ?_⟩
    ((repeat ((conv => whnf); first | refine brT ?_ | refine brF ?_)); conv => whnf)
    refine ⟨hlen _, i, [5], _, rfl, fw_get2 hiL rfl, rfl, rfl, rfl, _, fw_set hiL rfl (.int .i64 (kk + 5)), ?_⟩
    ((repeat ((conv => whnf); first | refine brT ?_ | refine brF ?_)); conv => whnf)
    have e5 : LV.hs 0 L.length = LV.hs 0 (rowPM k ps (i + 1)).length := by rw [hl, rowPM_len (by omega)]
    have e6 : LV.int .i64 (IntKind.i64.wrap (kk + 5 + 1)) = LV.int .i64 ((k + 6 * (i + 1) : Nat) : Int) := by rw [w5]
    refine round_end (i + 1) hlt (by omega) ⟨?_, ⟨congrArg (Blk.arr 85 6) hfin, trivial⟩, rfl, rfl⟩
    repeat ((conv => whnf); first | refine ⟨e, ?_⟩ | refine ⟨e6, ?_⟩ | refine ⟨e5, ?_⟩ | refine ⟨rfl, ?_⟩)
    trivial
  · have h3 : i = ps.length := by rw [ltI_f] at g1; omega
    subst h3
    ((repeat ((conv => whnf); first | refine brT ?_ | refine brF ?_)); conv => whnf)
    exact ⟨[.int .i64 ((k + 6 * ps.length : Nat) : Int)], rfl, rfl, .inl ⟨⟨rfl, trivial⟩, ⟨by simp [rowPM], trivial⟩, rfl, rfl⟩⟩
end Go.Proofs.YtgkjafmmekjjlaaGreat
namespace Go.Proofs.YtgkjafmmekjjlaaGreat
open Go.Lg
def hasP (ps : List Per) (us : List Uni) (p : Int) : Bool := leI 0 p && (ltI p (ps.length : Int) && famOk ps us)
theorem l1Has_spec (ps : List Per) (us : List Uni) (p : Int) : FSpec env.P 43 [famLV ps us, .int .i64 p] (.bool (hasP ps us p)) := by
  refine FSpec_of_code env_ok (fn := Tryz.f43) Tryz.func43 rfl Tryz.call43 _ _ ?_
  ((repeat ((conv => whnf); first | refine brT ?_ | refine brF ?_)); conv => whnf)
  (refine ⟨fun h1 => ?_, fun h1 => ?_⟩ <;> rw [h1])
  · ((repeat ((conv => whnf); first | refine brT ?_ | refine brF ?_)); conv => whnf)
    intro hn
    ((repeat' (((repeat ((conv => whnf); first | refine brT ?_ | refine brF ?_)); conv => whnf); first | (refine And.intro ?_ ?_ <;> (intro h; rw [h]; revert h; intro _)) | (refine Exists.intro true (And.intro (a := drawB _ _ = true) (by kernel_rfl) ?_)) | (refine Exists.intro _ (And.intro (isFamily_spec ps us) ?_)))); all_goals ((repeat ((conv => whnf); first | refine brT ?_ | refine brF ?_)); conv => whnf))
    all_goals (refine fin ?_; simp_all [hasP])
  · ((repeat ((conv => whnf); first | refine brT ?_ | refine brF ?_)); conv => whnf)
    refine fin ?_; simp [hasP, h1]
theorem hasP_lt {ps : List Per} {us : List Uni} {p : Int} (h : hasP ps us p = true) : 0 ≤ p ∧ p.toNat < ps.length ∧ famOk ps us = true := by
  unfold hasP at h
  simp only [Bool.and_eq_true, leI_t, ltI_t] at h
  exact ⟨h.1, by omega, h.2.2⟩
theorem famOk_parts {ps : List Per} {us : List Uni} (h : famOk ps us = true) : ps.length ≤ 40 ∧ us.length ≤ 60 ∧ personsTo ps ps.length = true ∧ unionsTo ps us us.length = true ∧ shallow (depths ps) = true := by
  unfold famOk at h
  simpa only [Bool.and_eq_true, decide_eq_true_eq] using h
def cmpI (a b : Int) : Int := match ltI a b with | true => -1 | false => match ltI b a with | true => 1 | false => 0
theorem isNaN_spec (a : Int) : FSpec env.P 187 [.int .i64 a] (.bool false) := by
  refine FSpec_of_code env_ok (fn := Tryz.f187) Tryz.func187 rfl Tryz.call187 _ _ ?_
  ((repeat ((conv => whnf); first | refine brT ?_ | refine brF ?_)); conv => whnf)
  exact fin (by simp [notB, eqI_refl])
theorem compare_spec (a b : Int) : FSpec env.P 186 [.int .i64 a, .int .i64 b] (.int .i64 (cmpI a b)) := by
  refine FSpec_of_code env_ok (fn := Tryz.f186) Tryz.func186 rfl Tryz.call186 _ _ ?_
  ((repeat' (((repeat ((conv => whnf); first | refine brT ?_ | refine brF ?_)); conv => whnf); first | (refine And.intro ?_ ?_ <;> (intro h; rw [h]; revert h; intro _)) | (refine Exists.intro true (And.intro (a := drawB _ _ = true) (by kernel_rfl) ?_)) | (refine Exists.intro _ (And.intro (isNaN_spec _) ?_)))); all_goals ((repeat ((conv => whnf); first | refine brT ?_ | refine brF ?_)); conv => whnf))
  all_goals
    refine ⟨rfl, ?_, List.nodup_nil⟩
    simp [cmpI, *]
def orI (a b : Int) : Int := match eqI a 0 with | true => b | false => a
end Go.Proofs.YtgkjafmmekjjlaaGreat
namespace Go.Proofs.YtgkjafmmekjjlaaGreat
open Go.Lg
def endLV : Option Int → LV
  | some y => .tup [.int .i64 y, .bool true]
  | none => .tup [.int .i64 0, .bool false]
def endOf2 (a b : Int) : Option Int := match eqI a (-1) with
  | true => (match eqI b (-1) with | true => none | false => some b)
  | false => (match eqI b (-1) with | true => some a | false => some (minI a b))
def endO (ps : List Per) (u : Uni) : Option Int := match eqI u.till (-1) with
  | false => some u.till
  | true => match ps[u.husband.toNat]?, ps[u.wife.toNat]? with
    | some x, some y => endOf2 x.died y.died
    | _, _ => none
structure UniIn (ps : List Per) (u : Uni) : Prop where
  m0 : 0 ≤ u.husband
  ml : u.husband.toNat < ps.length
  w0 : 0 ≤ u.wife
  wl : u.wife.toNat < ps.length
structure UniYears (ps : List Per) (u : Uni) (h : UniIn ps u) : Prop where
  t : u.till = -1 ∨ 0 ≤ u.till
  m : (ps[u.husband.toNat]'h.ml).died = -1 ∨ 0 ≤ (ps[u.husband.toNat]'h.ml).died
  w : (ps[u.wife.toNat]'h.wl).died = -1 ∨ 0 ≤ (ps[u.wife.toNat]'h.wl).died
theorem uni_of {ps : List Per} {us : List Uni} (h : famOk ps us = true) {k : Nat} (hk : k < us.length) : ∃ h : UniIn ps us[k], UniYears ps us[k] h := by
  obtain ⟨_, _, hp, hu, _⟩ := famOk_parts h
  have hok : unionOk ps (us.take k) us[k] = true := by
    cases e : unionOk ps (us.take k) us[k] with
    | true => rfl
    | false => rw [unionsTo_no hk hk e] at hu; cases hu
  unfold unionOk at hok
  simp only [Bool.and_eq_true] at hok
  obtain ⟨⟨h1, h2⟩, ⟨h3, h4⟩, h5, h6⟩ := hok
  obtain ⟨m0, ml, _⟩ := ofSex_lt h1
  obtain ⟨w0, wl, _⟩ := ofSex_lt h2
  refine ⟨⟨m0, ml, w0, wl⟩, ?_⟩
  have pm := personOk_spec (personsTo_get hp ml ml)
  have pw := personOk_spec (personsTo_get hp wl wl)
  unfold bothFit at h6
  rw [List.getElem?_eq_getElem ml, List.getElem?_eq_getElem wl] at h6
  simp only [fits, Bool.and_eq_true, leI_t] at h6
  unfold endYear at h4
  simp only [Bool.or_eq_true, Bool.and_eq_true, eqI_t, leI_t] at h4
  refine ⟨?_, ?_, ?_⟩
  · omega
  · omega
  · omega
theorem endOf2_years {a b : Int} (ha : a = -1 ∨ 0 ≤ a) (hb : b = -1 ∨ 0 ≤ b) : endOf2 a b = (if a < 0 ∧ b < 0 then none else some (if a < 0 ∨ (0 ≤ b ∧ b < a) then b else a)) := by
  unfold endOf2 minI
  grind [eqI_t, eqI_f]
end Go.Proofs.YtgkjafmmekjjlaaGreat
namespace Go.Proofs.YtgkjafmmekjjlaaGreat
open Go.Lg
theorem toPersonS_h (ps : List Per) (hb : 56 * ps.length ≤ 281474976710656) : HSpec env.P 46 [.sl (ps.map Per.lv)] [] (.hs 0 ps.length) [.arr 85 6 (ps.map Per.lv)] := by
  refine HSpec_of_code (E := env.x [] 0) env_ok.x (fn := Tryz.f46) Tryz.func46 rfl Tryz.call46 _ _ _ _ ?_
  ((repeat ((conv => whnf); first | refine brT ?_ | refine brF ?_)); conv => whnf)
  intro hp
  have hp' : ps.length ≤ Go.maxLen := by simpa using hp
  ((repeat ((conv => whnf); first | refine brT ?_ | refine brF ?_)); conv => whnf)
  refine ⟨ps.length, by simp, by simp, hb, hp', rfl, by decide, ?_⟩
  ((repeat ((conv => whnf); first | refine brT ?_ | refine brF ?_)); conv => whnf)
  refine loop_rule (α := Nat) (fun k => [(4, .int .i64 (k : Int))]) (fun k => [.arr 85 6 (fillLV Per.lv zPer ps k)]) (fun k => ps.length - k) (fun k => k ≤ ps.length) 0 (Nat.zero_le _) ?_ ?_
  · refine ⟨?_, ⟨by simp [zPer, fillLV], trivial⟩, rfl, rfl⟩
    repeat ((conv => whnf); refine ⟨rfl, ?_⟩)
    trivial
  rintro k hk
  ((repeat ((conv => whnf); first | refine brT ?_ | refine brF ?_)); conv => whnf)
  intro _
  ((repeat ((conv => whnf); first | refine brT ?_ | refine brF ?_)); conv => whnf)
  refine ⟨fun h1 => ?_, fun h1 => ?_⟩ <;> rw [h1]
  · have hlt : k < ps.length := by rw [ltI_t] at h1; simp at h1; omega
    ((repeat ((conv => whnf); first | refine brT ?_ | refine brF ?_)); conv => whnf)
    refine ⟨k, ps[k].lv, rfl, by simp [hlt], rfl, ?_⟩
    ((repeat ((conv => whnf); first | refine brT ?_ | refine brF ?_)); conv => whnf)
    refine ⟨_, toPerson_spec ps[k], ?_⟩
    ((repeat ((conv => whnf); first | refine brT ?_ | refine brF ?_)); conv => whnf)
    refine ⟨(fill_len hk).symm, rfl, k, rfl, by rw [fill_len hk]; exact hlt, ?_⟩
    ((repeat ((conv => whnf); first | refine brT ?_ | refine brF ?_)); conv => whnf)
    refine ⟨(fill_len hk).symm, k, [], zPer, rfl, by simp [getP, fill_get hlt], rfl, rfl, rfl, _, rfl, ?_⟩
    ((repeat ((conv => whnf); first | refine brT ?_ | refine brF ?_)); conv => whnf)
    refine round_end (k + 1) hlt (by omega) ⟨?_, ⟨?_, trivial⟩, rfl, rfl⟩
    · have e := step_i hlt hp'
      repeat ((conv => whnf); first | refine ⟨e, ?_⟩ | refine ⟨rfl, ?_⟩)
      trivial
    · have e3 : (match (fillLV Per.lv zPer ps k)[k]? with | some z => (fillLV Per.lv zPer ps k).set k (setP z [] ps[k].lv) | none => fillLV Per.lv zPer ps k) = fillLV Per.lv zPer ps (k + 1) := by
        rw [fill_get hlt]
        simp only [zPer, setP]
        exact fill_set hlt
      exact congrArg (Blk.arr 85 6) e3
  · have h3 : ps.length ≤ k := by rw [ltI_f] at h1; simp at h1; omega
    have h4 : k = ps.length := by omega
    subst h4
    ((repeat ((conv => whnf); first | refine brT ?_ | refine brF ?_)); conv => whnf)
    exact ⟨[.hs 0 ps.length], rfl, rfl, .inl ⟨⟨rfl, trivial⟩, ⟨congrArg (Blk.arr 85 6) fill_all, trivial⟩, rfl, rfl⟩⟩
theorem toUnionS_h (ps : List Uni) (hb : 32 * ps.length ≤ 281474976710656) : HSpec env.P 47 [.sl (ps.map Uni.lv)] [] (.hs 0 ps.length) [.arr 89 4 (ps.map Uni.lv)] := by
  refine HSpec_of_code (E := env.x [] 0) env_ok.x (fn := Tryz.f47) Tryz.func47 rfl Tryz.call47 _ _ _ _ ?_
  ((repeat ((conv => whnf); first | refine brT ?_ | refine brF ?_)); conv => whnf)
  intro hp
  have hp' : ps.length ≤ Go.maxLen := by simpa using hp
  ((repeat ((conv => whnf); first | refine brT ?_ | refine brF ?_)); conv => whnf)
  refine ⟨ps.length, by simp, by simp, hb, hp', rfl, by decide, ?_⟩
  ((repeat ((conv => whnf); first | refine brT ?_ | refine brF ?_)); conv => whnf)
  refine loop_rule (α := Nat) (fun k => [(4, .int .i64 (k : Int))]) (fun k => [.arr 89 4 (fillLV Uni.lv zUni ps k)]) (fun k => ps.length - k) (fun k => k ≤ ps.length) 0 (Nat.zero_le _) ?_ ?_
  · refine ⟨?_, ⟨by simp [zUni, fillLV], trivial⟩, rfl, rfl⟩
    repeat ((conv => whnf); refine ⟨rfl, ?_⟩)
    trivial
  rintro k hk
  ((repeat ((conv => whnf); first | refine brT ?_ | refine brF ?_)); conv => whnf)
  intro _
  ((repeat ((conv => whnf); first | refine brT ?_ | refine brF ?_)); conv => whnf)
  refine ⟨fun h1 => ?_, fun h1 => ?_⟩ <;> rw [h1]
  · have hlt : k < ps.length := by rw [ltI_t] at h1; simp at h1; omega
    ((repeat ((conv => whnf); first | refine brT ?_ | refine brF ?_)); conv => whnf)
    refine ⟨k, ps[k].lv, rfl, by simp [hlt], rfl, ?_⟩
    ((repeat ((conv => whnf); first | refine brT ?_ | refine brF ?_)); conv => whnf)
    refine ⟨_, toUnion_spec ps[k], ?_⟩
    ((repeat ((conv => whnf); first | refine brT ?_ | refine brF ?_)); conv => whnf)
    refine ⟨(fill_len hk).symm, rfl, k, rfl, by rw [fill_len hk]; exact hlt, ?_⟩
    ((repeat ((conv => whnf); first | refine brT ?_ | refine brF ?_)); conv => whnf)
    refine ⟨(fill_len hk).symm, k, [], zUni, rfl, by simp [getP, fill_get hlt], rfl, rfl, rfl, _, rfl, ?_⟩
    ((repeat ((conv => whnf); first | refine brT ?_ | refine brF ?_)); conv => whnf)
    refine round_end (k + 1) hlt (by omega) ⟨?_, ⟨?_, trivial⟩, rfl, rfl⟩
    · have e := step_i hlt hp'
      repeat ((conv => whnf); first | refine ⟨e, ?_⟩ | refine ⟨rfl, ?_⟩)
      trivial
    · have e3 : (match (fillLV Uni.lv zUni ps k)[k]? with | some z => (fillLV Uni.lv zUni ps k).set k (setP z [] ps[k].lv) | none => fillLV Uni.lv zUni ps k) = fillLV Uni.lv zUni ps (k + 1) := by
        rw [fill_get hlt]
        simp only [zUni, setP]
        exact fill_set hlt
      exact congrArg (Blk.arr 89 4) e3
  · have h3 : ps.length ≤ k := by rw [ltI_f] at h1; simp at h1; omega
    have h4 : k = ps.length := by omega
    subst h4
    ((repeat ((conv => whnf); first | refine brT ?_ | refine brF ?_)); conv => whnf)
    exact ⟨[.hs 0 ps.length], rfl, rfl, .inl ⟨⟨rfl, trivial⟩, ⟨congrArg (Blk.arr 89 4) fill_all, trivial⟩, rfl, rfl⟩⟩
def famHS (a b : Nat) : LV := .st [.hs 0 a, .hs 1 b]
theorem toFamily_h (ps : List Per) (us : List Uni) (hp : 56 * ps.length ≤ 281474976710656) (hu : 32 * us.length ≤ 281474976710656) :
    HSpec env.P 11 [famLV ps us] [] (famHS ps.length us.length) [.arr 85 6 (ps.map Per.lv), .arr 89 4 (us.map Uni.lv)] := by
  refine HSpec_of_code (E := env.x [46, 47] 0) env_ok.x (fn := Tryz.f11) Tryz.func11 rfl Tryz.call11 _ _ _ _ ?_
  ((repeat ((conv => whnf); first | refine brT ?_ | refine brF ?_)); conv => whnf)
  refine ⟨[], _, _, _, _, toPersonS_h ps hp, rfl, rfl, rfl, trivial, ?_⟩
  ((repeat ((conv => whnf); first | refine brT ?_ | refine brF ?_)); conv => whnf)
  refine ⟨[], _, _, _, _, toUnionS_h us hu, rfl, rfl, rfl, trivial, ?_⟩
  ((repeat ((conv => whnf); first | refine brT ?_ | refine brF ?_)); conv => whnf)
  refine ⟨[famHS ps.length us.length], rfl, rfl, .inr ⟨[.old 3, .old 4], ?_, ?_, rfl⟩⟩
  · ((repeat ((conv => whnf); refine ⟨rfl, rfl, ?_⟩)); trivial)
  · exact ⟨rfl, rfl, rfl, rfl, trivial⟩
end Go.Proofs.YtgkjafmmekjjlaaGreat
namespace Go.Proofs.YtgkjafmmekjjlaaGreat
open Go.Lg
def markUni (k : Nat) : Uni := ⟨(k : Int), (k : Int) + 1, (k : Int) + 2, (k : Int) + 3⟩
def markUnis (k : Nat) : Nat → List Uni
  | 0 => []
  | n + 1 => markUnis k n ++ [markUni (k + 4 * n)]
theorem markUnis_len (k : Nat) : ∀ n, (markUnis k n).length = n
  | 0 => rfl
  | n + 1 => by simp [markUnis, markUnis_len k n]
def rowUM (k : Nat) (ps : List Uni) (i : Nat) : List LV := (markUnis k i ++ ps.drop i).map Uni.lv
theorem rowUM_len {k : Nat} {ps : List Uni} {i : Nat} (h : i ≤ ps.length) : (rowUM k ps i).length = ps.length := by simp [rowUM, markUnis_len]; omega
theorem rowUM_get {k : Nat} {ps : List Uni} {i : Nat} (h : i < ps.length) : (rowUM k ps i)[i]? = some ps[i].lv := by
  unfold rowUM
  rw [List.getElem?_map, List.getElem?_append_right (by rw [markUnis_len]; exact Nat.le_refl _), markUnis_len, Nat.sub_self, List.getElem?_drop, Nat.add_zero, List.getElem?_eq_getElem h]
  rfl
theorem rowUM_set {k : Nat} {ps : List Uni} {i : Nat} (h : i < ps.length) : (rowUM k ps i).set i (markUni (k + 4 * i)).lv = rowUM k ps (i + 1) := by
  unfold rowUM
  rw [List.drop_eq_getElem_cons h, List.map_append, List.map_cons, List.set_append_right _ _ (by simp [markUnis_len])]
  simp [markUnis, markUnis_len]
theorem markUnionS_spec (ps : List Uni) (n : Nat) (hn : n = (ps.map Uni.lv).length) (k : Nat) (h1 : k + 4 * ps.length ≤ 2305843009213693952) :
    HSpec env.P 55 [.hs 0 n, .int .i64 (k : Int)] [.arr 89 4 (ps.map Uni.lv)] (.int .i64 ((k + 4 * ps.length : Nat) : Int)) [.arr 89 4 ((markUnis k ps.length).map Uni.lv)] := by
  subst hn
  refine HSpec_of_code (E := env.x [] 1) env_ok.x (fn := Tryz.f55) Tryz.func55 rfl Tryz.call55 _ _ _ _ ?_
  ((repeat ((conv => whnf); first | refine brT ?_ | refine brF ?_)); conv => whnf)
  refine loop_rule (α := Nat) (fun i => [(5, .int .i64 (i : Int)), (1, .int .i64 ((k + 4 * i : Nat) : Int)), (0, .hs 0 (rowUM k ps i).length)]) (fun i => [.arr 89 4 (rowUM k ps i)]) (fun i => ps.length - i) (fun i => i ≤ ps.length) 0 (Nat.zero_le _) ?_ ?_
  · have e0 : ps.map Uni.lv = rowUM k ps 0 := by simp [rowUM, markUnis]
    have e1 : LV.hs 0 (ps.map Uni.lv).length = LV.hs 0 (rowUM k ps 0).length := by rw [e0]
    refine ⟨?_, ⟨congrArg (Blk.arr 89 4) e0, trivial⟩, rfl, rfl⟩
    ((repeat ((conv => whnf); first | refine ⟨e1, ?_⟩ | refine ⟨rfl, ?_⟩)); trivial)
  intro i hi
  have hl := rowUM_len (k := k) hi
  ((repeat ((conv => whnf); first | refine brT ?_ | refine brF ?_)); conv => whnf)
  refine ⟨rfl, fun hm => ?_⟩
  have hm' : ps.length ≤ Go.maxLen := by rw [← hl]; exact hm
  ((repeat ((conv => whnf); first | refine brT ?_ | refine brF ?_)); conv => whnf)
  (refine ⟨fun g1 => ?_, fun g1 => ?_⟩ <;> rw [g1])
  · have hlt : i < ps.length := by rw [ltI_t] at g1; omega
    have e := step_i hlt hm'
    have hiL : i < (rowUM k ps i).length := by omega
    have hg := rowUM_get (k := k) hlt
    have hset := rowUM_set (k := k) hlt
    have w0 : IntKind.i64.wrap (((k + 4 * i : Nat) : Int) + 1) = ((k + 4 * i : Nat) : Int) + 1 := wrap64 (by omega) (by omega)
    have w1 : IntKind.i64.wrap (((k + 4 * i : Nat) : Int) + 1 + 1) = ((k + 4 * i : Nat) : Int) + 2 := by rw [wrap64 (by omega) (by omega)]; omega
    have w2 : IntKind.i64.wrap (((k + 4 * i : Nat) : Int) + 2 + 1) = ((k + 4 * i : Nat) : Int) + 3 := by rw [wrap64 (by omega) (by omega)]; omega
    have w3 : IntKind.i64.wrap (((k + 4 * i : Nat) : Int) + 3 + 1) = ((k + 4 * (i + 1) : Nat) : Int) := by rw [wrap64 (by omega) (by omega)]; omega
    have hlen : ∀ x : LV, (rowUM k ps i).length = ((rowUM k ps i).set i x).length := fun x => by simp
    generalize ps[i] = p at hg hset
    generalize hK : ((k + 4 * i : Nat) : Int) = kk at w0 w1 w2 w3 ⊢
    have hfin : (rowUM k ps i).set i (.st [.int .i64 kk, .int .i64 (kk + 1), .int .i64 (kk + 2), .int .i64 (kk + 3)]) = rowUM k ps (i + 1) := by
      rw [← hset]; unfold markUni Uni.lv; rw [hK]
    generalize rowUM k ps i = L at hl hm hiL hg hlen hfin g1 ⊢
    have hgp : getP (.st L) [i] = some (.st [LV.int .i64 p.husband, LV.int .i64 p.wife, LV.int .i64 p.since, LV.int .i64 p.till]) := by simp [getP, hg, Uni.lv]
    have hgp0 : getP (.st L) [i, 0] = some (.int .i64 p.husband) := by simp [getP, hg, Uni.lv]
    ((repeat ((conv => whnf); first | refine brT ?_ | refine brF ?_)); conv => whnf)
    refine ⟨rfl, rfl, i, rfl, hiL, ?_⟩
    ((repeat ((conv => whnf); first | refine brT ?_ | refine brF ?_)); conv => whnf)
    refine ⟨rfl, by simp, [LV.int .i64 p.husband, LV.int .i64 p.wife, LV.int .i64 p.since, LV.int .i64 p.till], hgp, rfl, by simp, ?_⟩
    ((repeat ((conv => whnf); first | refine brT ?_ | refine brF ?_)); conv => whnf)
    refine ⟨rfl, i, [0], .int .i64 p.husband, rfl, hgp0, rfl, rfl, rfl, L.set i (.st [.int .i64 kk, .int .i64 p.wife, .int .i64 p.since, .int .i64 p.till]), by rw [hg]; rfl, ?_⟩
    ((repeat ((conv => whnf); first | refine brT ?_ | refine brF ?_)); conv => whnf)
    rw [w0]
    refine ⟨hlen _, rfl, i, rfl, by simpa using hiL, ?_⟩
    ((repeat ((conv => whnf); first | refine brT ?_ | refine brF ?_)); conv => whnf)
    refine ⟨hlen _, by simp, _, fw_get hiL _, rfl, by simp, ?_⟩
    ((repeat ((conv => whnf); first | refine brT ?_ | refine brF ?_)); conv => whnf)
    refine ⟨hlen _, i, [1], _, rfl, fw_get2 hiL rfl, rfl, rfl, rfl, _, fw_set hiL rfl (.int .i64 (kk + 1)), ?_⟩
    ((repeat ((conv => whnf); first | refine brT ?_ | refine brF ?_)); conv => whnf)
    rw [w1]
    refine ⟨hlen _, rfl, i, rfl, by simpa using hiL, ?_⟩
    ((repeat ((conv => whnf); first | refine brT ?_ | refine brF ?_)); conv => whnf)
    refine ⟨hlen _, by simp, _, fw_get hiL _, rfl, by simp, ?_⟩
    ((repeat ((conv => whnf); first | refine brT ?_ | refine brF ?_)); conv => whnf)
    refine ⟨hlen _, i, [2], _, rfl, fw_get2 hiL rfl, rfl, rfl, rfl, _, fw_set hiL rfl (.int .i64 (kk + 2)), ?_⟩
    ((repeat ((conv => whnf); first | refine brT ?_ | refine brF ?_)); conv => whnf)
    rw [w2]
    refine ⟨hlen _, rfl, i, rfl, by simpa using hiL, ?_⟩
    ((repeat ((conv => whnf); first | refine brT ?_ | refine brF ?_)); conv => whnf)
    refine ⟨hlen _, by simp, _, fw_get hiL _, rfl, by simp, ?_⟩
    ((repeat ((conv => whnf); first | refine brT ?_ | refine brF ?_)); conv => whnf)
    refine ⟨hlen _, i, [3], _, rfl, fw_get2 hiL rfl, rfl, rfl, rfl, _, fw_set hiL rfl (.int .i64 (kk + 3)), ?_⟩
    ((repeat ((conv => whnf); first | refine brT ?_ | refine brF ?_)); conv => whnf)
    have e5 : LV.hs 0 L.length = LV.hs 0 (rowUM k ps (i + 1)).length := by rw [hl, rowUM_len (by omega)]
    have e6 : LV.int .i64 (IntKind.i64.wrap (kk + 3 + 1)) = LV.int .i64 ((k + 4 * (i + 1) : Nat) : Int) := by rw [w3]
    refine round_end (i + 1) hlt (by omega) ⟨?_, ⟨congrArg (Blk.arr 89 4) hfin, trivial⟩, rfl, rfl⟩
    repeat ((conv => whnf); first | refine ⟨e, ?_⟩ | refine ⟨e6, ?_⟩ | refine ⟨e5, ?_⟩ | refine ⟨rfl, ?_⟩)
    trivial
  · have h3 : i = ps.length := by rw [ltI_f] at g1; omega
    subst h3
    ((repeat ((conv => whnf); first | refine brT ?_ | refine brF ?_)); conv => whnf)
    exact ⟨[.int .i64 ((k + 4 * ps.length : Nat) : Int)], rfl, rfl, .inl ⟨⟨rfl, trivial⟩, ⟨by simp [rowUM], trivial⟩, rfl, rfl⟩⟩
theorem markFamily_spec (ps : List Per) (us : List Uni) (k : Nat) (h1 : k + 6 * ps.length + 4 * us.length ≤ 2305843009213693952) :
    HSpec env.P 16 [famHS ps.length us.length, .int .i64 (k : Int)] [.arr 85 6 (ps.map Per.lv), .arr 89 4 (us.map Uni.lv)] (.int .i64 ((k + 6 * ps.length + 4 * us.length : Nat) : Int))
      [.arr 85 6 ((markPers k ps.length).map Per.lv), .arr 89 4 ((markUnis (k + 6 * ps.length) us.length).map Uni.lv)] := by
  refine HSpec_of_code (E := env.x [54, 55] 2) env_ok.x (fn := Tryz.f16) Tryz.func16 rfl Tryz.call16 _ _ _ _ ?_
  ((repeat ((conv => whnf); first | refine brT ?_ | refine brF ?_)); conv => whnf)
  refine ⟨[0], _, _, _, _, markPersonS_spec ps ps.length (by simp) k (by omega), rfl, rfl, rfl, trivial, ?_⟩
  ((repeat ((conv => whnf); first | refine brT ?_ | refine brF ?_)); conv => whnf)
  refine ⟨[1], _, _, _, _, markUnionS_spec us us.length (by simp) (k + 6 * ps.length) (by omega), rfl, rfl, rfl, trivial, ?_⟩
  ((repeat ((conv => whnf); first | refine brT ?_ | refine brF ?_)); conv => whnf)
  exact ⟨[.int .i64 ((k + 6 * ps.length + 4 * us.length : Nat) : Int)], rfl, rfl, .inl ⟨⟨rfl, trivial⟩, ⟨rfl, rfl, trivial⟩, rfl, rfl⟩⟩
theorem toFamily_hm (ps : List Per) (us : List Uni) (hp : 56 * ps.length ≤ 281474976710656) (hu : 32 * us.length ≤ 281474976710656) :
    HSpec env.P 11 [famLV ps us] [] (famHS (ps.map Per.lv).length (us.map Uni.lv).length) [.arr 85 6 (ps.map Per.lv), .arr 89 4 (us.map Uni.lv)] := by
  rw [List.length_map, List.length_map]; exact toFamily_h ps us hp hu
theorem markFamily_hm (ps : List Per) (us : List Uni) (k : Nat) (h1 : k + 6 * ps.length + 4 * us.length ≤ 2305843009213693952) :
    HSpec env.P 16 [famHS (ps.map Per.lv).length (us.map Uni.lv).length, .int .i64 (k : Int)] [.arr 85 6 (ps.map Per.lv), .arr 89 4 (us.map Uni.lv)] (.int .i64 ((k + 6 * ps.length + 4 * us.length : Nat) : Int))
      [.arr 85 6 ((markPers k ps.length).map Per.lv), .arr 89 4 ((markUnis (k + 6 * ps.length) us.length).map Uni.lv)] := by
  rw [List.length_map, List.length_map]; exact markFamily_spec ps us k h1
end Go.Proofs.YtgkjafmmekjjlaaGreat
namespace Go.Proofs.YtgkjafmmekjjlaaGreat
open Go.Lg
def rowSl (r : List Int) : LV := .sl (r.map intLV)
def rowOw (r : List Int) : LV := .own 3 1 (r.map intLV)
end Go.Proofs.YtgkjafmmekjjlaaGreat
namespace Go.Proofs.YtgkjafmmekjjlaaGreat
open Go.Lg
theorem flats_ints : ∀ xs : List Int, flatsB (xs.map intLV) = true
  | [] => rfl
  | x :: xs => by simp [flatsB, flatB, intLV]; exact flats_ints xs
theorem flat_ints (xs : List Int) : flatT (.own 3 1 (xs.map intLV)) = true := by simp [flatT, flatB, flats_ints]
end Go.Proofs.YtgkjafmmekjjlaaGreat
namespace Go.Proofs.YtgkjafmmekjjlaaGreat
open Go.Lg
structure RowsOK (rows : List (List Int)) : Prop where
  n : 24 * rows.length ≤ 281474976710656
  each : ∀ r ∈ rows, 8 * r.length ≤ 281474976710656
end Go.Proofs.YtgkjafmmekjjlaaGreat
namespace Go.Proofs.YtgkjafmmekjjlaaGreat
open Go.Lg
end Go.Proofs.YtgkjafmmekjjlaaGreat
namespace Go.Proofs.YtgkjafmmekjjlaaGreat
open Go.Lg Go.Pm
end Go.Proofs.YtgkjafmmekjjlaaGreat
namespace Go.Proofs.YtgkjafmmekjjlaaGreat
open Go.Lg Go.Pm
theorem ints_f {f : FuncId} {args : List LV} {xs : List Int} (h : HSpec env.P f args [] (.hs 0 (xs.map intLV).length) [.arr 3 1 (xs.map intLV)]) : FSpec env.P f args (rowOw xs) :=
  FSpec_of_HSpec h (by unfold rowOw; simp [exW])
end Go.Proofs.YtgkjafmmekjjlaaGreat
namespace Go.Proofs.YtgkjafmmekjjlaaGreat
open Go.Lg Go.Pm
def cmpB (ps qs : List Int) : Bool := eqI (ps.length : Int) (qs.length : Int) && (permB ps && permB qs)
end Go.Proofs.YtgkjafmmekjjlaaGreat
namespace Go.Proofs.YtgkjafmmekjjlaaGreat
open Go.Lg
def tot (rows : List (List Int)) : Nat := (rows.map List.length).sum
theorem tot_cons (r : List Int) (rs : List (List Int)) : tot (r :: rs) = r.length + tot rs := by simp [tot]
end Go.Proofs.YtgkjafmmekjjlaaGreat
namespace Go.Proofs.YtgkjafmmekjjlaaGreat
open Go.Lg
def rowFrom (size : Int) : Int → List Int → Bool
  | _, [] => true
  | last, b :: bs => match leI b last with | true => false | false => match leI size b with | true => false | false => rowFrom size b bs
end Go.Proofs.YtgkjafmmekjjlaaGreat
namespace Go.Proofs.YtgkjafmmekjjlaaGreat
open Go.Lg
structure RowsLen (rows : List (List Int)) : Prop where
  n : rows.length ≤ Go.maxLen
  each : ∀ r ∈ rows, r.length ≤ Go.maxLen
theorem eqB_refl (b : Bool) : eqB b b = true := by unfold eqB; simp
end Go.Proofs.YtgkjafmmekjjlaaGreat
namespace Go.Proofs.YtgkjafmmekjjlaaGreat
open Go.Lg Go.Pm
end Go.Proofs.YtgkjafmmekjjlaaGreat
namespace Go.Proofs.YtgkjafmmekjjlaaGreat
open Go.Lg
end Go.Proofs.YtgkjafmmekjjlaaGreat
namespace Go.Proofs.YtgkjafmmekjjlaaGreat
open Go.Lg
theorem rowFrom_cons {n last b : Int} {bs : List Int} (h : rowFrom n last (b :: bs) = true) : last < b ∧ b < n ∧ rowFrom n b bs = true := by
  simp only [rowFrom] at h
  split at h
  · cases h
  · rename_i h1
    split at h
    · cases h
    · rename_i h2
      rw [leI_f] at h1 h2
      exact ⟨h1, h2, h⟩
theorem rowFrom_len : ∀ {r : List Int} {n last : Int}, rowFrom n last r = true → (r.length : Int) + last ≤ n - 1 ∨ r = []
  | [], _, _, _ => .inr rfl
  | x :: xs, n, last, h => by
    obtain ⟨h1, h2, h3⟩ := rowFrom_cons h
    left
    rcases rowFrom_len h3 with h4 | rfl
    · simp only [List.length_cons]; omega
    · simp; omega
structure RelIn (n : Int) (rows : List (List Int)) : Prop where
  lo : 0 ≤ n
  hi : n ≤ 40
  len : (rows.length : Int) = n
  row : ∀ r ∈ rows, rowFrom n (-1) r = true
theorem RelIn.rlen {n : Int} {rows : List (List Int)} (h : RelIn n rows) {r : List Int} (hr : r ∈ rows) : r.length ≤ 40 := by
  have h1 := h.hi
  rcases rowFrom_len (h.row r hr) with h2 | rfl
  · omega
  · simp
structure Pr where
  a : Int
  b : Int
def Pr.lv (p : Pr) : LV := .st [.int .i64 p.a, .int .i64 p.b]
theorem tot_le {m : Nat} : ∀ {rows : List (List Int)}, (∀ r ∈ rows, r.length ≤ m) → tot rows ≤ rows.length * m
  | [], _ => by simp [tot]
  | r :: rs, h => by
    have h1 := h r (by simp)
    have h2 := tot_le (rows := rs) fun q hq => h q (by simp [hq])
    rw [tot_cons, List.length_cons, Nat.succ_mul]; omega
theorem RelIn.tot {n : Int} {rows : List (List Int)} (h : RelIn n rows) : tot rows ≤ 1600 := by
  have h1 := tot_le (rows := rows) (m := 40) fun r hr => h.rlen hr
  have h2 : rows.length ≤ 40 := by have := h.len; have := h.hi; omega
  have := Nat.mul_le_mul_right 40 h2
  omega
end Go.Proofs.YtgkjafmmekjjlaaGreat
namespace Go.Proofs.YtgkjafmmekjjlaaGreat
open Go.Lg
end Go.Proofs.YtgkjafmmekjjlaaGreat
namespace Go.Proofs.YtgkjafmmekjjlaaGreat
open Go.Lg
def bLV (b : Bool) : LV := .bool b
end Go.Proofs.YtgkjafmmekjjlaaGreat
namespace Go.Proofs.YtgkjafmmekjjlaaGreat
open Go.Lg
end Go.Proofs.YtgkjafmmekjjlaaGreat
namespace Go.Proofs.YtgkjafmmekjjlaaGreat
open Go.Lg
end Go.Proofs.YtgkjafmmekjjlaaGreat
namespace Go.Proofs.YtgkjafmmekjjlaaGreat
open Go.Lg
end Go.Proofs.YtgkjafmmekjjlaaGreat
namespace Go.Proofs.YtgkjafmmekjjlaaGreat
open Go.Lg
def idxOf : Nat → List Int → Int → Int
  | _, [], _ => -1
  | k, x :: xs, v => match eqI v x with | true => (k : Int) | false => idxOf (k + 1) xs v
end Go.Proofs.YtgkjafmmekjjlaaGreat
namespace Go.Proofs.YtgkjafmmekjjlaaGreat
open Go.Lg
end Go.Proofs.YtgkjafmmekjjlaaGreat
namespace Go.Proofs.YtgkjafmmekjjlaaGreat
open Go.Lg
theorem RelIn.size {n : Int} {rows : List (List Int)} (h : RelIn n rows) : rows.length ≤ 40 := by have := h.len; have := h.hi; omega
end Go.Proofs.YtgkjafmmekjjlaaGreat
namespace Go.Proofs.YtgkjafmmekjjlaaGreat
open Go.Lg
end Go.Proofs.YtgkjafmmekjjlaaGreat
namespace Go.Proofs.YtgkjafmmekjjlaaGreat
open Go.Lg
end Go.Proofs.YtgkjafmmekjjlaaGreat
namespace Go.Proofs.YtgkjafmmekjjlaaGreat
open Go.Lg
end Go.Proofs.YtgkjafmmekjjlaaGreat
namespace Go.Proofs.YtgkjafmmekjjlaaGreat
open Go.Lg
end Go.Proofs.YtgkjafmmekjjlaaGreat
namespace Go.Proofs.YtgkjafmmekjjlaaGreat
open Go.Lg
end Go.Proofs.YtgkjafmmekjjlaaGreat
namespace Go.Proofs.YtgkjafmmekjjlaaGreat
open Go.Lg
end Go.Proofs.YtgkjafmmekjjlaaGreat
namespace Go.Proofs.YtgkjafmmekjjlaaGreat
open Go.Lg
end Go.Proofs.YtgkjafmmekjjlaaGreat
namespace Go.Proofs.YtgkjafmmekjjlaaGreat
open Go.Lg
end Go.Proofs.YtgkjafmmekjjlaaGreat
namespace Go.Proofs.YtgkjafmmekjjlaaGreat
open Go.Lg
end Go.Proofs.YtgkjafmmekjjlaaGreat
namespace Go.Proofs.YtgkjafmmekjjlaaGreat
open Go.Lg
def Pr.eq (p q : Pr) : Bool := eqI p.a q.a && eqI p.b q.b
theorem Pr.eq_refl (p : Pr) : p.eq p = true := by simp [Pr.eq, eqI_refl]
theorem eqPairS_refl (ps : List Pr) : eqList Pr.eq ps ps = true := eqList_refl Pr.eq_refl ps
end Go.Proofs.YtgkjafmmekjjlaaGreat
namespace Go.Proofs.YtgkjafmmekjjlaaGreat
open Go.Lg
end Go.Proofs.YtgkjafmmekjjlaaGreat
namespace Go.Proofs.YtgkjafmmekjjlaaGreat
open Go.Lg
end Go.Proofs.YtgkjafmmekjjlaaGreat
namespace Go.Proofs.YtgkjafmmekjjlaaGreat
open Go.Lg
end Go.Proofs.YtgkjafmmekjjlaaGreat
namespace Go.Proofs.YtgkjafmmekjjlaaGreat
open Go.Lg
end Go.Proofs.YtgkjafmmekjjlaaGreat
namespace Go.Proofs.YtgkjafmmekjjlaaGreat
open Go.Lg
end Go.Proofs.YtgkjafmmekjjlaaGreat
namespace Go.Proofs.YtgkjafmmekjjlaaGreat
open Go.Lg
end Go.Proofs.YtgkjafmmekjjlaaGreat
namespace Go.Proofs.YtgkjafmmekjjlaaGreat
open Go.Lg
end Go.Proofs.YtgkjafmmekjjlaaGreat
namespace Go.Proofs.YtgkjafmmekjjlaaGreat
open Go.Lg
end Go.Proofs.YtgkjafmmekjjlaaGreat
namespace Go.Proofs.YtgkjafmmekjjlaaGreat
open Go.Lg Go.Pm
end Go.Proofs.YtgkjafmmekjjlaaGreat
namespace Go.Proofs.YtgkjafmmekjjlaaGreat
open Go.Lg Go.Pm
end Go.Proofs.YtgkjafmmekjjlaaGreat
namespace Go.Proofs.YtgkjafmmekjjlaaGreat
open Go.Lg Go.Pm
end Go.Proofs.YtgkjafmmekjjlaaGreat
namespace Go.Proofs.YtgkjafmmekjjlaaGreat
open Go.Lg
structure Rul where
  name : ByteArray
  sex : Int
  place : Int
  fr : List Pr
  to : List Pr
def Rul.lv (r : Rul) : LV := .st [.str r.name, .int .i64 r.sex, .int .i64 r.place, .sl (r.fr.map Pr.lv), .sl (r.to.map Pr.lv)]
def Rul.own (r : Rul) (e : Nat) : LV := .st [.str r.name, .int .i64 r.sex, .int .i64 r.place, .own e 2 (r.fr.map Pr.lv), .own e 2 (r.to.map Pr.lv)]
def Rul.eq (r s : Rul) : Bool := eqS r.name s.name && (eqI r.sex s.sex && (eqI r.place s.place && (eqList Pr.eq r.fr s.fr && eqList Pr.eq r.to s.to)))
theorem Rul.eq_refl (r : Rul) : r.eq r = true := by simp [Rul.eq, eqS_refl, eqI_refl, eqPairS_refl]
end Go.Proofs.YtgkjafmmekjjlaaGreat
namespace Go.Proofs.YtgkjafmmekjjlaaGreat
open Go.Lg
theorem Weak.idn {n0 : Nat} {ts : List LV} {H : List Blk} (h1 : wk ts ts) (h2 : wkH n0 H H) (h3 : (scs (below H.length) ts && H.all (scB (below H.length))) = true) : Weak n0 ts H ts H := by
  simp only [Bool.and_eq_true] at h3
  exact .inl ⟨h1, h2, h3.1, h3.2⟩
end Go.Proofs.YtgkjafmmekjjlaaGreat
