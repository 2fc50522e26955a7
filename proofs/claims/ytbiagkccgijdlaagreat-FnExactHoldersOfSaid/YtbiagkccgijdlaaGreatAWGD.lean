/- Contracts of functions of the program and of its model, told over readings. -/
import Derived.Test.YtbiagkccgijdlaaGreatAWGC
import Derived.Test.YtbiagkccgijdlaaGreatAWGA
import Derived.Test.YtbiagkccgijdlaaGreatChecked
import Derived.WalkKit
import Derived.Lib.Walk
import Derived.Laws.Bits64b
import Derived.Laws.CopyOwn
import Derived.Deep.RegionLaw
import Derived.Deep.LoopGhost
import Derived.Deep.OwnRows
import Derived.Deep.RegionHeld
import Derived.KernelRfl
import Derived.OwnWalk
import Derived.Test.YtbiagkccgijdlaaGreatAWGB
import Derived.Test.YtbiagkccgijdlaaGreatALgRN
import Derived.Test.YtbiagkccgijdlaaGreatALgRM
namespace Go.Proofs.YtbiagkccgijdlaaGreat
open Go.Lg Go.Pm
set_option maxHeartbeats 3200000
set_option maxRecDepth 10000
set_option linter.unusedVariables false
set_option linter.unusedSimpArgs false

theorem l1Children_h (ps : List Per) (us : List Uni) (p : Int) (hl : ps.length ≤ 40) :
    HSpec env.P 139 [famLV ps us, .int .i64 p] [] (.hs 0 ((eldL ps (chQ ps p) ps.length).map natLV).length) [.arr 3 1 ((eldL ps (chQ ps p) ps.length).map natLV)] := by
  refine HSpec_of_code (E := env.x [163] 0) env_ok.x (fn := Tryz.f139) Tryz.func139 rfl Tryz.call139 _ _ _ _ ?_
  have hP : (ps.map Per.lv).length = ps.length := List.length_map ..
  have hp' : ps.length ≤ Go.maxLen := by unfold Go.maxLen; omega
  rw [← bySt_eld]
  ((repeat ((conv => whnf); first | refine brT ?_ | refine brF ?_)); conv => whnf)
  intro _
  rw [hP]
  ((repeat ((conv => whnf); first | refine brT ?_ | refine brF ?_)); conv => whnf)
  refine loop_ruleR (α := Nat) [.old 0, .old 1] (fun k => [(12, .int .i64 (k : Int)), (8, .undef), (5, .hs 1 ((bySt ps (chQ ps p) k).map natLV).length)]) (fun k => [.box (famLV ps us), .arr 3 1 ((bySt ps (chQ ps p) k).map natLV)]) (fun k => ps.length - k) (fun k => k ≤ ps.length) 0 (Nat.zero_le _) ?_ ?_
  · refine ⟨?_, ⟨rfl, rfl, rfl, rfl, trivial⟩, rfl⟩
    ((repeat ((conv => whnf); refine ⟨rfl, rfl, ?_⟩)); trivial)
  intro k hk
  generalize hK : kk _ = KK
  have hbl := bySt_len ps (chQ ps p) k
  ((repeat ((conv => whnf); first | refine brT ?_ | refine brF ?_)); conv => whnf)
  (refine ⟨fun g1 => ?_, fun g1 => ?_⟩ <;> rw [g1])
  · have hlt : k < ps.length := by rw [ltI_t] at g1; omega
    have e := step_i hlt hp'
    have hg : (ps.map Per.lv)[k]? = some ps[k].lv := by simp [hlt]
    have hQ : chQ ps p k = (eqI ps[k].father p || eqI ps[k].mother p) := by simp [chQ, hlt, chB]
    ((repeat ((conv => whnf); first | refine brT ?_ | refine brF ?_)); conv => whnf)
    refine ⟨k, _, rfl, hg, rfl, ?_⟩
    ((repeat ((conv => whnf); first | refine brT ?_ | refine brF ?_)); conv => whnf)
    (refine ⟨fun g2 => ?_, fun g2 => ?_⟩ <;> rw [g2])
    · have hq : chQ ps p k = true := by rw [hQ, g2]; rfl
      ((repeat ((conv => whnf); first | refine brT ?_ | refine brF ?_)); conv => whnf)
      refine ⟨[], _, _, _, _, l1ByAge_h ps us (bySt ps (chQ ps p) k) k hlt (fun x hx => Nat.lt_trans (bySt_lt hx) hlt) (by omega), rfl, ?_⟩
      ((repeat ((conv => whnf); first | refine brT ?_ | refine brF ?_)); conv => whnf)
      refine ⟨rfl, ?_⟩
      ((repeat ((conv => whnf); first | refine brT ?_ | refine brF ?_)); conv => whnf)
      refine ⟨rfl, rfl, ⟨rfl, flats_nats _, trivial⟩, ?_⟩
      ((repeat ((conv => whnf); first | refine brT ?_ | refine brF ?_)); conv => whnf)
      subst hK
      have e2 : insA ps k (bySt ps (chQ ps p) k) = bySt ps (chQ ps p) (k + 1) := by simp [bySt, hq]
      have e3 : LV.hs 1 ((insA ps k (bySt ps (chQ ps p) k)).map natLV).length = LV.hs 1 ((bySt ps (chQ ps p) (k + 1)).map natLV).length := by rw [e2]
      refine round_endR [.old 0, .old 3] (k + 1) hlt (by omega) ⟨?_, ⟨rfl, rfl, rfl, congrArg (fun l : List Nat => Blk.arr 3 1 (l.map natLV)) e2, trivial⟩, rfl⟩
      repeat ((conv => whnf); first | refine ⟨rfl, e, ?_⟩ | refine ⟨rfl, e3, ?_⟩ | refine ⟨rfl, rfl, ?_⟩)
      trivial
    · ((repeat ((conv => whnf); first | refine brT ?_ | refine brF ?_)); conv => whnf)
      (refine ⟨fun g3 => ?_, fun g3 => ?_⟩ <;> rw [g3])
      · have hq : chQ ps p k = true := by rw [hQ, g3]; simp
        ((repeat ((conv => whnf); first | refine brT ?_ | refine brF ?_)); conv => whnf)
        refine ⟨[], _, _, _, _, l1ByAge_h ps us (bySt ps (chQ ps p) k) k hlt (fun x hx => Nat.lt_trans (bySt_lt hx) hlt) (by omega), rfl, ?_⟩
        ((repeat ((conv => whnf); first | refine brT ?_ | refine brF ?_)); conv => whnf)
        refine ⟨rfl, ?_⟩
        ((repeat ((conv => whnf); first | refine brT ?_ | refine brF ?_)); conv => whnf)
        refine ⟨rfl, rfl, ⟨rfl, flats_nats _, trivial⟩, ?_⟩
        ((repeat ((conv => whnf); first | refine brT ?_ | refine brF ?_)); conv => whnf)
        subst hK
        have e2 : insA ps k (bySt ps (chQ ps p) k) = bySt ps (chQ ps p) (k + 1) := by simp [bySt, hq]
        have e3 : LV.hs 1 ((insA ps k (bySt ps (chQ ps p) k)).map natLV).length = LV.hs 1 ((bySt ps (chQ ps p) (k + 1)).map natLV).length := by rw [e2]
        refine round_endR [.old 0, .old 3] (k + 1) hlt (by omega) ⟨?_, ⟨rfl, rfl, rfl, congrArg (fun l : List Nat => Blk.arr 3 1 (l.map natLV)) e2, trivial⟩, rfl⟩
        repeat ((conv => whnf); first | refine ⟨rfl, e, ?_⟩ | refine ⟨rfl, e3, ?_⟩ | refine ⟨rfl, rfl, ?_⟩)
        trivial
      · have hq : chQ ps p k = false := by rw [hQ, g2, g3]; rfl
        have e2 : bySt ps (chQ ps p) k = bySt ps (chQ ps p) (k + 1) := by simp [bySt, hq]
        have e3 : LV.hs 1 ((bySt ps (chQ ps p) k).map natLV).length = LV.hs 1 ((bySt ps (chQ ps p) (k + 1)).map natLV).length := by rw [← e2]
        ((repeat ((conv => whnf); first | refine brT ?_ | refine brF ?_)); conv => whnf)
        subst hK
        refine round_endR [.old 0, .old 1] (k + 1) hlt (by omega) ⟨?_, ⟨rfl, rfl, rfl, congrArg (fun l : List Nat => Blk.arr 3 1 (l.map natLV)) e2, trivial⟩, rfl⟩
        repeat ((conv => whnf); first | refine ⟨rfl, e, ?_⟩ | refine ⟨rfl, e3, ?_⟩ | refine ⟨rfl, rfl, ?_⟩)
        trivial
  have h4 : k = ps.length := by rw [ltI_f] at g1; omega
  subst h4
  subst hK
  ((repeat ((conv => whnf); first | refine brT ?_ | refine brF ?_)); conv => whnf)
  exact ⟨[.hs 0 ((bySt ps (chQ ps p) ps.length).map natLV).length], rfl, rfl, .inr ⟨[.old 1], ⟨rfl, rfl, trivial⟩, ⟨rfl, rfl, trivial⟩, rfl⟩⟩
end Go.Proofs.YtbiagkccgijdlaaGreat

set_option linter.unusedVariables false
set_option linter.unusedSimpArgs false
/-! slices.Repeat of one number, walked at this program. -/
namespace Go.Proofs.SB
open Go.RowKit
set_option maxHeartbeats 2000000
set_option maxRecDepth 100000
/-- So many of the number stand in a row, zeros behind them. -/
def part (c : Int) (n k : Nat) : List Value := List.replicate k (.int .i64 c) ++ List.replicate (n - k) (.int .i64 0)
end Go.Proofs.SB


namespace Go.Proofs.YtbiagkccgijdlaaGreat
open Go.Lg Go.RowKit
set_option maxHeartbeats 1600000
set_option maxRecDepth 10000
set_option linter.unusedVariables false
set_option linter.unusedSimpArgs false

end Go.Proofs.YtbiagkccgijdlaaGreat


namespace Go.Proofs.YtbiagkccgijdlaaGreat
open Go.Lg
set_option maxHeartbeats 800000
set_option linter.unusedVariables false
set_option linter.unusedSimpArgs false

/-! ### Steps up -/
/-- r is a parent of x. -/
def isPa (ps : List Per) (x r : Nat) : Prop := ∃ h : x < ps.length, ps[x].father = (r : Int) ∨ ps[x].mother = (r : Int)
/-- So many steps lead up from one person to another. -/
inductive UpN (ps : List Per) : Nat → Nat → Nat → Prop
  | zero (p : Nat) : UpN ps 0 p p
  | step {n p r q : Nat} : isPa ps p r → UpN ps n r q → UpN ps (n + 1) p q
theorem UpN.snoc {ps : List Per} {n p x q : Nat} (h : UpN ps n p x) (hx : isPa ps x q) : UpN ps (n + 1) p q := by
  induction h with
  | zero p => exact .step hx (.zero q)
  | step h1 h2 ih => exact .step h1 (ih hx)
theorem UpN.last {ps : List Per} {n p q : Nat} (h : UpN ps (n + 1) p q) : ∃ x, UpN ps n p x ∧ isPa ps x q := by
  induction n generalizing p with
  | zero =>
    cases h with
    | step h1 h2 => cases h2 with | zero => exact ⟨p, .zero p, h1⟩
  | succ n ih =>
    cases h with
    | step h1 h2 =>
      obtain ⟨x, hx, hq⟩ := ih h2
      exact ⟨x, .step h1 hx, hq⟩
theorem isPa_lt {ps : List Per} (hp : parsIn ps) {x r : Nat} (h : isPa ps x r) : r < x := by
  obtain ⟨hx, h⟩ := h
  have := hp x hx
  rcases h with h | h
  · rcases this.1 with h1 | h1 <;> omega
  · rcases this.2 with h1 | h1 <;> omega
theorem UpN.le {ps : List Per} (hp : parsIn ps) {n p q : Nat} (h : UpN ps n p q) : q + n ≤ p := by
  induction h with
  | zero p => omega
  | step h1 h2 ih => have := isPa_lt hp h1; omega
theorem UpN.lt {ps : List Per} {n p q : Nat} (h : UpN ps n p q) (hq : q < ps.length) (h0 : n ≠ 0) : p < ps.length := by
  cases h with
  | zero => exact absurd rfl h0
  | step h1 _ => exact h1.1
theorem UpN.add {ps : List Per} {n p x : Nat} (h : UpN ps n p x) {m q : Nat} (k : UpN ps m x q) : UpN ps (n + m) p q := by
  induction h with
  | zero p => rw [Nat.zero_add]; exact k
  | step h1 h2 ih => rw [Nat.add_right_comm]; exact .step h1 (ih k)
/-- The depth of a person. -/
def dpt (ps : List Per) (i : Nat) : Int := (depths ps).getD i 0
theorem depTo_get (ps : List Per) {i k : Nat} (h : i < k) : ∀ n, k ≤ n → (depTo ps n).getD i 0 = (depTo ps k).getD i 0 := by
  intro n hn
  induction n with
  | zero => omega
  | succ n ih =>
    rcases Nat.lt_or_ge n k with h1 | h1
    · have : k = n + 1 := by omega
      subst this; rfl
    · have e := ih h1
      rw [← e]
      simp only [depTo, List.getD_eq_getElem?_getD]
      rw [List.getElem?_append_left (by rw [depTo_len]; omega)]
theorem dpt_rec {ps : List Per} {i : Nat} (h : i < ps.length) : dpt ps i = dep2 (depTo ps i) ps[i] := by
  unfold dpt depths
  rw [depTo_get ps (i := i) (k := i + 1) (by omega) ps.length (by omega), depTo_succ h, List.getD_eq_getElem?_getD, List.getElem?_append_right (by rw [depTo_len]; exact Nat.le_refl _), depTo_len, Nat.sub_self]
  rfl
theorem dpt_par {ps : List Per} (hp : parsIn ps) {x r : Nat} (h : isPa ps x r) : dpt ps r + 1 ≤ dpt ps x := by
  have hr := isPa_lt hp h
  obtain ⟨hx, h⟩ := h
  have e : dep (depTo ps x) (r : Int) = dpt ps r + 1 := by
    unfold dep
    rw [leI_t.2 (by omega : (0 : Int) ≤ (r : Int))]
    show (depTo ps x).getD r 0 + 1 = _
    unfold dpt depths
    rw [depTo_get ps hr ps.length (by omega)]
  rw [dpt_rec hx]
  unfold dep2 maxI
  rcases h with h | h
  · rw [h, e]; split <;> omega
  · rw [h, e]; split <;> omega
theorem dpt_range {ps : List Per} (i : Nat) : 0 ≤ dpt ps i := by
  unfold dpt
  rw [List.getD_eq_getElem?_getD]
  cases e : (depths ps)[i]? with
  | none => exact Int.le_refl _
  | some v => exact (depTo_range ps _ v (List.mem_of_getElem? e)).1
theorem dpt_small {ps : List Per} (h : shallow (depths ps) = true) (i : Nat) : dpt ps i ≤ 10 := by
  unfold dpt
  rw [List.getD_eq_getElem?_getD]
  cases e : (depths ps)[i]? with
  | none => show (0 : Int) ≤ 10; omega
  | some v =>
    unfold shallow at h
    exact leI_t.1 (List.all_eq_true.1 h v (List.mem_of_getElem? e))
theorem UpN.dpt {ps : List Per} (hp : parsIn ps) {n p q : Nat} (h : UpN ps n p q) : dpt ps q + n ≤ dpt ps p := by
  induction h with
  | zero p => simp
  | step h1 h2 ih => have := dpt_par hp h1; push_cast; omega
theorem UpN.small {ps : List Per} (hp : parsIn ps) (hs : shallow (depths ps) = true) {n p q : Nat} (h : UpN ps n p q) : n ≤ 10 := by
  have h1 := h.dpt hp
  have h2 := dpt_small hs p
  have h3 := dpt_range (ps := ps) q
  omega
/-- The least number of steps up; -1 if there are none. -/
def isLeast (ps : List Per) (p q : Nat) (m : Int) : Prop := (∀ n, UpN ps n p q → 0 ≤ m ∧ m ≤ n) ∧ (m = -1 ∨ (0 ≤ m ∧ UpN ps m.toNat p q))
theorem isLeast.zero {ps : List Per} {p q : Nat} {m : Int} (h : isLeast ps p q m) : m = 0 ↔ p = q := by
  constructor
  · intro e
    subst e
    rcases h.2 with h2 | ⟨_, h3⟩
    · omega
    · cases h3; rfl
  · intro e
    subst e
    have := h.1 0 (.zero p); omega
theorem isLeast.range {ps : List Per} {p q : Nat} {m : Int} (h : isLeast ps p q m) : -1 ≤ m := by
  rcases h.2 with h | ⟨h, _⟩ <;> omega

/-! ### As the model reckons them -/
theorem known_pa {ps : List Per} (hp : parsIn ps) {x : Nat} (h : x < ps.length) {v : Int} : v ∈ known ps[x] ↔ ∃ r : Nat, v = r ∧ isPa ps x r := by
  have := hp x h
  unfold known notNone
  simp only [List.mem_filter, List.mem_cons, List.not_mem_nil, or_false, notB_t, eqI_f]
  constructor
  · rintro ⟨h1, h2⟩
    have h0 : 0 ≤ v := by
      rcases h1 with h1 | h1
      · rcases this.1 with k | k <;> omega
      · rcases this.2 with k | k <;> omega
    refine ⟨v.toNat, by omega, h, ?_⟩
    rcases h1 with h1 | h1
    · exact .inl (by omega)
    · exact .inr (by omega)
  · rintro ⟨r, rfl, _, h1⟩
    refine ⟨?_, by omega⟩
    rcases h1 with h1 | h1
    · exact .inl h1.symm
    · exact .inr h1.symm
/-- One parent is laid so many steps up, if that is less. -/
def rlx (o : List Int) (d : Int) (q : Int) : List Int := match ltI (o.getD q.toNat 0) 0 || ltI d (o.getD q.toNat 0) with | true => o.set q.toNat d | false => o
def rlxs (o : List Int) (d : Int) (qs : List Int) : List Int := qs.foldl (fun o q => rlx o d q) o
def relax (ps : List Per) (o : List Int) (x : Nat) : List Int := match ltI (o.getD x 0) 0 with
  | true => o
  | false => match ps[x]? with | some p => rlxs o (o.getD x 0 + 1) (known p) | none => o
def upTo (ps : List Per) (p : Nat) : Nat → List Int
  | 0 => (List.replicate ps.length (-1)).set p 0
  | j + 1 => relax ps (upTo ps p j) (ps.length - 1 - j)
/-- spec.l8Up. -/
def upS (ps : List Per) (p : Nat) : List Int := upTo ps p ps.length
theorem rlx_len (o : List Int) (d q : Int) : (rlx o d q).length = o.length := by unfold rlx; split <;> simp
theorem rlxs_len (d : Int) : ∀ (qs : List Int) (o : List Int), (rlxs o d qs).length = o.length
  | [], o => rfl
  | q :: qs, o => by show (rlxs (rlx o d q) d qs).length = _; rw [rlxs_len d qs, rlx_len]
theorem relax_len (ps : List Per) (o : List Int) (x : Nat) : (relax ps o x).length = o.length := by
  unfold relax; split
  · rfl
  · split
    · exact rlxs_len _ _ _
    · rfl
theorem getD_set {o : List Int} {i j : Nat} {v : Int} (h : i < o.length) : (o.set i v).getD j 0 = if i = j then v else o.getD j 0 := by
  simp only [List.getD_eq_getElem?_getD, List.getElem?_set]
  split
  · rename_i e; subst e; simp [h]
  · rfl
/-- What may be known of the row when all above x have been looked at. -/
structure UpInv (ps : List Per) (p x : Nat) (o : List Int) : Prop where
  len : o.length = ps.length
  own : o.getD p 0 = 0
  real : ∀ q, q < ps.length → o.getD q 0 = -1 ∨ (0 ≤ o.getD q 0 ∧ UpN ps (o.getD q 0).toNat p q)
  done : ∀ y, x ≤ y → y < ps.length → 0 ≤ o.getD y 0 → ∀ r, isPa ps y r → 0 ≤ o.getD r 0 ∧ o.getD r 0 ≤ o.getD y 0 + 1
theorem rlx_get {o : List Int} {d q : Int} (h0 : 0 ≤ q) (hq : q.toNat < o.length) (j : Nat) : (rlx o d q).getD j 0 = if q.toNat = j ∧ (o.getD j 0 < 0 ∨ d < o.getD j 0) then d else o.getD j 0 := by
  unfold rlx
  split
  · rename_i e
    simp only [Bool.or_eq_true, ltI_t] at e
    rw [getD_set hq]
    by_cases hj : q.toNat = j
    · rw [if_pos hj, if_pos ⟨hj, by rw [← hj]; exact e⟩]
    · rw [if_neg hj, if_neg (fun h => hj h.1)]
  · rename_i e
    rw [Bool.or_eq_false_iff, ltI_f, ltI_f] at e
    rw [if_neg]
    rintro ⟨rfl, h⟩
    omega
/-- What laying all parents of x does. -/
theorem rlxs_get {n : Nat} {d : Int} (hd : 0 ≤ d) : ∀ (qs : List Int) (o : List Int), o.length = n → (∀ v ∈ qs, 0 ≤ v ∧ v.toNat < n) →
    ∀ j, ((rlxs o d qs).getD j 0 = o.getD j 0 ∨ ((j : Int) ∈ qs ∧ (rlxs o d qs).getD j 0 = d ∧ (o.getD j 0 < 0 ∨ d < o.getD j 0))) ∧ ((j : Int) ∈ qs → 0 ≤ (rlxs o d qs).getD j 0 ∧ (rlxs o d qs).getD j 0 ≤ d)
  | [], o, _, _, j => ⟨.inl rfl, fun h => by simp at h⟩
  | q :: qs, o, hl, hq, j => by
    obtain ⟨h0, h1⟩ := hq q List.mem_cons_self
    have ih := rlxs_get hd qs (rlx o d q) (by rw [rlx_len, hl]) (fun v hv => hq v (List.mem_cons_of_mem _ hv)) j
    have e := rlx_get (d := d) h0 (by rw [hl]; exact h1) j
    change ((rlxs (rlx o d q) d qs).getD j 0 = o.getD j 0 ∨ ((j : Int) ∈ q :: qs ∧ (rlxs (rlx o d q) d qs).getD j 0 = d ∧ _)) ∧ ((j : Int) ∈ q :: qs → 0 ≤ (rlxs (rlx o d q) d qs).getD j 0 ∧ (rlxs (rlx o d q) d qs).getD j 0 ≤ d)
    obtain ⟨i1, i2⟩ := ih
    generalize (rlxs (rlx o d q) d qs).getD j 0 = R at i1 i2 ⊢
    by_cases hj : q.toNat = j
    · have hm : (j : Int) ∈ q :: qs := by rw [show (j : Int) = q by omega]; exact List.mem_cons_self
      by_cases hc : o.getD j 0 < 0 ∨ d < o.getD j 0
      · rw [if_pos ⟨hj, hc⟩] at e
        rw [e] at i1
        have : R = d := by rcases i1 with i1 | i1 <;> omega
        exact ⟨.inr ⟨hm, this, hc⟩, fun _ => by omega⟩
      · rw [if_neg (fun h => hc h.2)] at e
        rw [e] at i1
        have hR : R = o.getD j 0 := by rcases i1 with i1 | ⟨_, _, i1⟩; exact i1; exact absurd i1 hc
        exact ⟨.inl hR, fun _ => by omega⟩
    · rw [if_neg (fun h => hj h.1)] at e
      rw [e] at i1
      have hne : (j : Int) ≠ q := by omega
      refine ⟨?_, fun h => i2 ?_⟩
      · rcases i1 with i1 | ⟨h, i1⟩
        · exact .inl i1
        · exact .inr ⟨List.mem_cons_of_mem _ h, i1⟩
      · rcases List.mem_cons.1 h with h | h
        · exact absurd h hne
        · exact h
theorem kn_in {ps : List Per} (hp : parsIn ps) {x : Nat} (h : x < ps.length) : ∀ v ∈ known ps[x], 0 ≤ v ∧ v.toNat < x := fun v hv => by
  obtain ⟨r, rfl, hr⟩ := (known_pa hp h).1 hv
  have := isPa_lt hp hr
  omega
theorem UpInv.step {ps : List Per} (hp : parsIn ps) {p x : Nat} {o : List Int} (hx : x < ps.length) (h : UpInv ps p (x + 1) o) : UpInv ps p x (relax ps o x) := by
  have hl : (relax ps o x).length = ps.length := by rw [relax_len, h.len]
  unfold relax at hl ⊢
  split at hl
  · rename_i hneg
    rw [ltI_t] at hneg
    refine ⟨h.len, h.own, h.real, fun y hy hyl hy0 => ?_⟩
    rcases Nat.lt_or_ge x y with h1 | h1
    · exact h.done y h1 hyl hy0
    · have : y = x := by omega
      subst this; omega
  · rename_i hpos
    rw [ltI_f] at hpos
    rw [List.getElem?_eq_getElem hx] at hl ⊢
    have hk := kn_in hp hx
    have g := rlxs_get (n := ps.length) (d := o.getD x 0 + 1) (by omega) (known ps[x]) o h.len (fun v hv => ⟨(hk v hv).1, by have := (hk v hv).2; omega⟩)
    have hsame : ∀ j, x ≤ j → (rlxs o (o.getD x 0 + 1) (known ps[x])).getD j 0 = o.getD j 0 := fun j hj => by
      rcases (g j).1 with e | ⟨e, _⟩
      · exact e
      · have := hk _ e; omega
    have hupx : UpN ps (o.getD x 0).toNat p x := by
      rcases h.real x hx with e | e
      · omega
      · exact e.2
    refine ⟨hl, ?_, ?_, ?_⟩
    · rcases (g p).1 with e | ⟨_, e, e2⟩
      · rw [e]; exact h.own
      · rw [h.own] at e2; omega
    · intro q hq
      rcases (g q).1 with e | ⟨hm, e, _⟩
      · show (rlxs o (o.getD x 0 + 1) (known ps[x])).getD q 0 = -1 ∨ _
        rw [e]; exact h.real q hq
      · right
        show 0 ≤ (rlxs o (o.getD x 0 + 1) (known ps[x])).getD q 0 ∧ _
        rw [e]
        obtain ⟨r, hr, hpa⟩ := (known_pa hp hx).1 hm
        have hqr : q = r := by omega
        subst hqr
        refine ⟨by omega, ?_⟩
        have := hupx.snoc hpa
        rwa [show (o.getD x 0 + 1).toNat = (o.getD x 0).toNat + 1 by omega]
    · intro y hy hyl hy0 r hr
      show 0 ≤ (rlxs o (o.getD x 0 + 1) (known ps[x])).getD r 0 ∧ (rlxs o (o.getD x 0 + 1) (known ps[x])).getD r 0 ≤ (rlxs o (o.getD x 0 + 1) (known ps[x])).getD y 0 + 1
      have hy0' : 0 ≤ o.getD y 0 := by rw [← hsame y hy]; exact hy0
      rw [hsame y hy]
      rcases Nat.lt_or_ge x y with h1 | h1
      · obtain ⟨d1, d2⟩ := h.done y h1 hyl hy0' r hr
        rcases (g r).1 with e | ⟨hm, e, e2⟩
        · rw [e]; exact ⟨d1, d2⟩
        · rw [e]; omega
      · have : y = x := by omega
        subst this
        exact (g r).2 ((known_pa hp hx).2 ⟨r, rfl, hr⟩)
/-- So many steps up; -1 if there are none. -/
def upd (ps : List Per) (p q : Nat) : Int := (upS ps p).getD q 0

/-! ### As the program reckons them -/
end Go.Proofs.YtbiagkccgijdlaaGreat


namespace Go.Proofs.YtbiagkccgijdlaaGreat
open Go.Lg
set_option maxHeartbeats 800000
set_option linter.unusedVariables false
set_option linter.unusedSimpArgs false

/-! ### Fractions in their lowest terms -/
def rdc : Nat → Nat → Nat × Nat
  | n, 0 => (n, 0)
  | n, e + 1 => if n % 2 = 0 then rdc (n / 2) e else (n, e + 1)
/-- So many parts in lowest terms. -/
def rd (v : Nat) : Nat × Nat := rdc v 30
end Go.Proofs.YtbiagkccgijdlaaGreat


namespace Go.Proofs.YtbiagkccgijdlaaGreat
open Go.Lg
set_option maxHeartbeats 800000
set_option linter.unusedVariables false
set_option linter.unusedSimpArgs false

/-! ### Kinship in parts -/
def wholeN : Nat := 1073741824
/-- The kinship of two persons, out of rows in which each one stands with those before. -/
def kAt (T : List (List Nat)) (x y : Nat) : Nat := (T.getD (max x y) []).getD (min x y) 0
def kSum (T : List (List Nat)) (b : Nat) (qs : List Int) : Nat := (qs.map fun q => kAt T q.toNat b / 2).sum
def kPar (T : List (List Nat)) (p : Per) : Nat := match eqI p.father (-1) || eqI p.mother (-1) with | true => 0 | false => kAt T p.father.toNat p.mother.toNat
def kRow (T : List (List Nat)) (k : Nat) (p : Per) : List Nat := ((List.range k).map fun b => kSum T b (known p)) ++ [wholeN / 2 + kPar T p / 2]
def kTo (ps : List Per) : Nat → List (List Nat)
  | 0 => []
  | k + 1 => kTo ps k ++ [match ps[k]? with | some p => kRow (kTo ps k) k p | none => []]
/-- What is known of the first k rows: kinships are whole numbers of parts as long as nobody is too deep, and at most a whole. -/
structure KInv (ps : List Per) (k : Nat) : Prop where
  dvd : ∀ a b, a < k → b < k → 2 ^ (29 - (dpt ps a).toNat - (dpt ps b).toNat) ∣ kAt (kTo ps k) a b
  le : ∀ a b, a < k → b < k → kAt (kTo ps k) a b ≤ wholeN
end Go.Proofs.YtbiagkccgijdlaaGreat


namespace Go.Proofs.YtbiagkccgijdlaaGreat
open Go.Lg
set_option maxHeartbeats 3200000
set_option maxRecDepth 10000
set_option linter.unusedVariables false
set_option linter.unusedSimpArgs false

/-! ### The table of least steps -/
end Go.Proofs.YtbiagkccgijdlaaGreat


namespace Go.Proofs.YtbiagkccgijdlaaGreat
open Go.Lg Go.Pm
set_option maxHeartbeats 3200000
set_option maxRecDepth 10000
set_option linter.unusedVariables false
set_option linter.unusedSimpArgs false

end Go.Proofs.YtbiagkccgijdlaaGreat


namespace Go.Proofs.YtbiagkccgijdlaaGreat
open Go.Lg Go.Pm
set_option maxHeartbeats 3200000
set_option maxRecDepth 10000
set_option linter.unusedVariables false
set_option linter.unusedSimpArgs false

theorem nats_f {f : FuncId} {args : List LV} {xs : List Nat} (h : HSpec env.P f args [] (.hs 0 (xs.map natLV).length) [.arr 3 1 (xs.map natLV)]) : FSpec env.P f args (.own 3 1 (xs.map natLV)) :=
  FSpec_of_HSpec h (by simp [exW])
end Go.Proofs.YtbiagkccgijdlaaGreat

namespace Go.Proofs.YtbiagkccgijdlaaGreat
open Go.Lg Go.Pm
set_option maxHeartbeats 3200000
set_option maxRecDepth 10000
set_option linter.unusedVariables false
set_option linter.unusedSimpArgs false

theorem fam_pi {ps : List Per} {us : List Uni} (h : famOk ps us = true) : parsIn ps := by
  unfold famOk at h; simp only [Bool.and_eq_true] at h; exact parsIn_of h.2.2.1
theorem fam_40 {ps : List Per} {us : List Uni} (h : famOk ps us = true) : ps.length ≤ 40 := by
  unfold famOk at h; simp only [Bool.and_eq_true, decide_eq_true_eq] at h; exact h.1
/-! ### Lists of persons -/
def belI (x n : Int) : Bool := leI 0 x && ltI x n
theorem isBelow_spec (x n : Int) : FSpec env.P 52 [.int .i64 x, .int .i64 n] (.bool (belI x n)) := by
  refine FSpec_of_code env_ok (fn := Tryz.f52) Tryz.func52 rfl Tryz.call52 _ _ ?_
  unfold belI
  ((repeat ((conv => whnf); first | refine brT ?_ | refine brF ?_)); conv => whnf)
  (refine ⟨fun g => ?_, fun g => ?_⟩ <;> rw [g])
  · ((repeat ((conv => whnf); first | refine brT ?_ | refine brF ?_)); conv => whnf); exact fin rfl
  · ((repeat ((conv => whnf); first | refine brT ?_ | refine brF ?_)); conv => whnf); exact fin rfl
theorem people3_h (ps : List Per) (us : List Uni) (F : Nat) (x y z : LV) (q : Nat → Bool) (hl : ps.length ≤ 40) (hF : ∀ i, i < ps.length → FSpec env.P F [.int .i64 (i : Int), .ref x, .ref y, .ref z] (.bool (q i))) :
    HSpec env.P 141 [famLV ps us, .clos F [.ref x, .ref y, .ref z]] [] (.hs 0 (rowW q ps.length).length) [.arr 3 1 (rowW q ps.length)] := by
  refine HSpec_of_code (E := env.x [] 0) env_ok.x (fn := Tryz.f141) Tryz.func141 rfl Tryz.call141 _ _ _ _ ?_
  have hP : (ps.map Per.lv).length = ps.length := List.length_map ..
  have hp' : ps.length ≤ Go.maxLen := by unfold Go.maxLen; omega
  ((repeat ((conv => whnf); first | refine brT ?_ | refine brF ?_)); conv => whnf)
  intro _
  rw [hP]
  ((repeat ((conv => whnf); first | refine brT ?_ | refine brF ?_)); conv => whnf)
  refine loop_ruleR (α := Nat) [.old 0, .nil 3 1] (fun k => [(10, .int .i64 (k : Int)), (5, .hs 1 (rowW q k).length)]) (fun k => [.box (famLV ps us), .arr 3 1 (rowW q k)]) (fun k => ps.length - k) (fun k => k ≤ ps.length) 0 (Nat.zero_le _) ?_ ?_
  · refine ⟨?_, ⟨rfl, rfl, rfl, rfl, trivial⟩, rfl⟩
    ((repeat ((conv => whnf); refine ⟨rfl, rfl, ?_⟩)); trivial)
  intro k hk
  generalize hK : kk _ = KK
  ((repeat ((conv => whnf); first | refine brT ?_ | refine brF ?_)); conv => whnf)
  (refine ⟨fun g1 => ?_, fun g1 => ?_⟩ <;> rw [g1])
  · have hlt : k < ps.length := by rw [ltI_t] at g1; omega
    have e := step_i hlt hp'
    have hw := wantL_succ q k
    have hwl := wantL_len q (k + 1)
    ((repeat ((conv => whnf); first | refine brT ?_ | refine brF ?_)); conv => whnf)
    refine ⟨_, hF k hlt, ?_⟩
    ((repeat ((conv => whnf); first | refine brT ?_ | refine brF ?_)); conv => whnf)
    (refine ⟨fun g2 => ?_, fun g2 => ?_⟩ <;> rw [g2])
    · rw [g2] at hw
      have e2 : rowW q k ++ [LV.int .i64 (k : Int)] = rowW q (k + 1) := by unfold rowW; rw [hw, List.map_append]; rfl
      have hl1 : (rowW q (k + 1)).length ≤ k + 1 := by unfold rowW; rw [List.length_map]; exact hwl
      ((repeat ((conv => whnf); first | refine brT ?_ | refine brF ?_)); conv => whnf)
      refine ⟨rfl, rfl, ?_, ?_, ?_⟩
      · rw [e2]; unfold Go.maxLen; omega
      · rw [e2]; show (rowW q (k + 1)).length * 8 ≤ _; omega
      rw [e2]
      ((repeat ((conv => whnf); first | refine brT ?_ | refine brF ?_)); conv => whnf)
      subst hK
      refine round_endR [.old 0, .old 3] (k + 1) hlt (by omega) ⟨?_, ⟨rfl, rfl, rfl, rfl, trivial⟩, rfl⟩
      ((repeat ((conv => whnf); first | refine ⟨rfl, e, ?_⟩ | refine ⟨rfl, rfl, ?_⟩)); trivial)
    · rw [g2, List.append_nil] at hw
      have e2 : rowW q k = rowW q (k + 1) := by unfold rowW; rw [hw]
      have e3 : LV.hs 1 (rowW q k).length = LV.hs 1 (rowW q (k + 1)).length := by rw [e2]
      ((repeat ((conv => whnf); first | refine brT ?_ | refine brF ?_)); conv => whnf)
      subst hK
      refine round_endR [.old 0, .old 1] (k + 1) hlt (by omega) ⟨?_, ⟨rfl, rfl, rfl, congrArg (Blk.arr 3 1) e2, trivial⟩, rfl⟩
      repeat ((conv => whnf); first | refine ⟨rfl, e, ?_⟩ | refine ⟨rfl, e3, ?_⟩ | refine ⟨rfl, rfl, ?_⟩)
      trivial
  have h4 : k = ps.length := by rw [ltI_f] at g1; omega
  subst h4
  subst hK
  ((repeat ((conv => whnf); first | refine brT ?_ | refine brF ?_)); conv => whnf)
  exact ⟨[.hs 0 (rowW q ps.length).length], rfl, rfl, .inr ⟨[.old 1], ⟨rfl, rfl, trivial⟩, ⟨rfl, rfl, trivial⟩, rfl⟩⟩
end Go.Proofs.YtbiagkccgijdlaaGreat

namespace Go.Proofs.YtbiagkccgijdlaaGreat
open Go.Lg Go.Pm
set_option maxHeartbeats 6400000
set_option maxRecDepth 10000
set_option linter.unusedVariables false
set_option linter.unusedSimpArgs false

/-! ### Other names -/
end Go.Proofs.YtbiagkccgijdlaaGreat

namespace Go.Proofs.YtbiagkccgijdlaaGreat
open Go.Lg Go.Pm
set_option maxHeartbeats 6400000
set_option maxRecDepth 10000
set_option linter.unusedVariables false
set_option linter.unusedSimpArgs false

end Go.Proofs.YtbiagkccgijdlaaGreat

namespace Go.Proofs.YtbiagkccgijdlaaGreat
open Go.Lg Go.Pm
set_option maxHeartbeats 6400000
set_option maxRecDepth 10000
set_option linter.unusedVariables false
set_option linter.unusedSimpArgs false

end Go.Proofs.YtbiagkccgijdlaaGreat

namespace Go.Proofs.YtbiagkccgijdlaaGreat
open Go.Lg Go.Pm
set_option maxHeartbeats 6400000
set_option maxRecDepth 10000
set_option linter.unusedVariables false
set_option linter.unusedSimpArgs false

end Go.Proofs.YtbiagkccgijdlaaGreat

namespace Go.Proofs.YtbiagkccgijdlaaGreat
open Go.Lg Go.Pm
set_option maxHeartbeats 6400000
set_option maxRecDepth 10000
set_option linter.unusedVariables false
set_option linter.unusedSimpArgs false

end Go.Proofs.YtbiagkccgijdlaaGreat

namespace Go.Proofs.YtbiagkccgijdlaaGreat
open Go.Lg Go.Pm
set_option maxHeartbeats 6400000
set_option maxRecDepth 10000
set_option linter.unusedVariables false
set_option linter.unusedSimpArgs false

end Go.Proofs.YtbiagkccgijdlaaGreat

namespace Go.Proofs.YtbiagkccgijdlaaGreat
open Go.Lg Go.Pm
set_option maxHeartbeats 6400000
set_option maxRecDepth 10000
set_option linter.unusedVariables false
set_option linter.unusedSimpArgs false

end Go.Proofs.YtbiagkccgijdlaaGreat

namespace Go.Proofs.YtbiagkccgijdlaaGreat
open Go.Lg Go.Pm
set_option maxHeartbeats 6400000
set_option maxRecDepth 10000
set_option linter.unusedVariables false
set_option linter.unusedSimpArgs false

/-! ### Products -/
def smallI (m : Nat) (a : List Int) : Prop := ∀ x ∈ a, 0 ≤ x ∧ x < m
theorem smallI.at {m : Nat} {a : List Int} (h : smallI m a) {i : Nat} (hi : i < a.length) : 0 ≤ a.getD i 0 ∧ a.getD i 0 < m := by rw [getD_lt hi]; exact h _ (List.getElem_mem hi)
end Go.Proofs.YtbiagkccgijdlaaGreat

namespace Go.Proofs.YtbiagkccgijdlaaGreat
open Go.Lg Go.Pm
set_option maxHeartbeats 6400000
set_option maxRecDepth 10000
set_option linter.unusedVariables false
set_option linter.unusedSimpArgs false

end Go.Proofs.YtbiagkccgijdlaaGreat

namespace Go.Proofs.YtbiagkccgijdlaaGreat
open Go.Lg Go.Pm
set_option maxHeartbeats 6400000
set_option maxRecDepth 10000
set_option linter.unusedVariables false
set_option linter.unusedSimpArgs false

end Go.Proofs.YtbiagkccgijdlaaGreat

namespace Go.Proofs.YtbiagkccgijdlaaGreat
open Go.Lg Go.Pm
set_option maxHeartbeats 6400000
set_option maxRecDepth 10000
set_option linter.unusedVariables false
set_option linter.unusedSimpArgs false

end Go.Proofs.YtbiagkccgijdlaaGreat

namespace Go.Proofs.YtbiagkccgijdlaaGreat
open Go.Lg Go.Pm
set_option maxHeartbeats 6400000
set_option maxRecDepth 10000
set_option linter.unusedVariables false
set_option linter.unusedSimpArgs false

/-! ### The order of systems -/
end Go.Proofs.YtbiagkccgijdlaaGreat


namespace Go.Proofs.YtbiagkccgijdlaaGreat
open Go.Lg Go.Pm
set_option maxHeartbeats 3200000
set_option maxRecDepth 10000
set_option linter.unusedVariables false
set_option linter.unusedSimpArgs false

def oL (p : Option (List Int)) : List Int := p.getD []
def fl (xss : List (Option (List Int))) : List Int := (xss.map oL).flatten
end Go.Proofs.YtbiagkccgijdlaaGreat

namespace Go.Proofs.YtbiagkccgijdlaaGreat
open Go.Lg Go.Pm
set_option maxHeartbeats 6400000
set_option maxRecDepth 10000
set_option linter.unusedVariables false
set_option linter.unusedSimpArgs false

/-! ### All permutations, one place after the other -/
def ixI (x : Int) (k : Nat) : List Int → Int
  | [] => -1
  | y :: l => match eqI x y with | true => (k : Int) | false => ixI x (k + 1) l
def hasI (l : List Int) (x : Int) : Bool := l.any fun y => eqI x y
theorem ixI_has (x : Int) : ∀ (l : List Int) (k : Nat), leI 0 (ixI x k l) = hasI l x
  | [], k => by simp [ixI, hasI, leI_d]
  | y :: l, k => by
    have := ixI_has x l (k + 1)
    simp only [ixI, hasI, List.any_cons]
    cases eqI x y with
    | true => simp [leI_d]
    | false => simp only [Bool.false_or]; exact this
theorem indexI_spec (l : List Int) (x : Int) : FSpec env.P 145 [.sl (l.map intLV), .int .i64 x] (.int .i64 (ixI x 0 l)) := by
  refine FSpec_of_code env_ok (fn := Tryz.f145) Tryz.func145 rfl Tryz.call145 _ _ ?_
  have hX : (l.map intLV).length = l.length := List.length_map ..
  ((repeat ((conv => whnf); first | refine brT ?_ | refine brF ?_)); conv => whnf)
  intro hp
  rw [hX] at hp ⊢
  ((repeat ((conv => whnf); first | refine brT ?_ | refine brF ?_)); conv => whnf)
  refine loop_rule (α := Nat) (fun k => [(8, .int .i64 (k : Int))]) (fun _ => []) (fun k => l.length - k) (fun k => k ≤ l.length ∧ ixI x 0 l = ixI x k (l.drop k)) 0 ⟨Nat.zero_le _, rfl⟩ ?_ ?_
  · refine ⟨?_, trivial, rfl, rfl⟩
    ((repeat ((conv => whnf); refine ⟨rfl, ?_⟩)); trivial)
  rintro k ⟨hk, he⟩
  ((repeat ((conv => whnf); first | refine brT ?_ | refine brF ?_)); conv => whnf)
  (refine ⟨fun h1 => ?_, fun h1 => ?_⟩ <;> rw [h1])
  · have hlt : k < l.length := by rw [ltI_t] at h1; omega
    have hd : ixI x 0 l = (match eqI x l[k] with | true => (k : Int) | false => ixI x (k + 1) (l.drop (k + 1))) := by
      rw [he, List.drop_eq_getElem_cons hlt]; simp only [ixI]
    ((repeat ((conv => whnf); first | refine brT ?_ | refine brF ?_)); conv => whnf)
    refine ⟨k, intLV l[k], rfl, by simp [hlt], rfl, ?_⟩
    ((repeat ((conv => whnf); first | refine brT ?_ | refine brF ?_)); conv => whnf)
    (refine ⟨fun h3 => ?_, fun h3 => ?_⟩ <;> rw [h3])
    · rw [h3] at hd
      ((repeat ((conv => whnf); first | refine brT ?_ | refine brF ?_)); conv => whnf)
      exact ⟨rfl, hd.symm, List.nodup_nil⟩
    · rw [h3] at hd
      ((repeat ((conv => whnf); first | refine brT ?_ | refine brF ?_)); conv => whnf)
      refine round_end (k + 1) ⟨hlt, hd⟩ (by omega) ⟨?_, trivial, rfl, rfl⟩
      have e := step_i hlt hp
      ((repeat ((conv => whnf); first | refine ⟨e, ?_⟩ | refine ⟨rfl, ?_⟩)); trivial)
  · have h4 : k = l.length := by rw [ltI_f] at h1; omega
    subst h4
    ((repeat ((conv => whnf); first | refine brT ?_ | refine brF ?_)); conv => whnf)
    refine ⟨rfl, ?_, List.nodup_nil⟩
    rw [he, List.drop_eq_nil_of_le (Nat.le_refl _)]
    simp only [ixI]
end Go.Proofs.YtbiagkccgijdlaaGreat

namespace Go.Proofs.YtbiagkccgijdlaaGreat
open Go.Lg Go.Pm
set_option maxHeartbeats 1600000
set_option maxRecDepth 10000
set_option linter.unusedVariables false
set_option linter.unusedSimpArgs false

/-! ### Customs, children in the order of a custom, heirs below: what they are, without a program -/
structure Cus where
  prefer : Int
  young : Bool
  repr : Bool
def Cus.lv (x : Cus) : LV := .st [.int .i64 x.prefer, .bool x.young, .bool x.repr]
def cusOk (x : Cus) : Bool := leI 0 x.prefer && leI x.prefer 4
def sexG (p : Int) : List (List Int) := match eqI p 1 with
  | true => [[1], [2]]
  | false => match eqI p 2 with
    | true => [[2], [1]]
    | false => match eqI p 3 with
      | true => [[1]]
      | false => match eqI p 4 with
        | true => [[2]]
        | false => [[1, 2]]
def sexD (ps : List Per) (i : Nat) : Int := match ps[i]? with | some x => x.sex | none => 0
def grpQ (ps : List Per) (l : List Int) (p : Int) (i : Nat) : Bool := hasI l (sexD ps i) && chQ ps p i
def turnL (y : Bool) (l : List Nat) : List Nat := match y with | true => l.reverse | false => l
def ordG (ps : List Per) (x : Cus) (p : Int) (l : List Int) : List Nat := turnL x.young (eldL ps (grpQ ps l p) ps.length)
def ordL (ps : List Per) (x : Cus) (p : Int) : List Nat := (sexG x.prefer).flatMap (ordG ps x p)
theorem turnL_len (y : Bool) (l : List Nat) : (turnL y l).length = l.length := by cases y <;> simp [turnL]
theorem turnL_mem {y : Bool} {l : List Nat} {q : Nat} : q ∈ turnL y l ↔ q ∈ l := by cases y <;> simp [turnL]
theorem ordG_len (ps : List Per) (x : Cus) (p : Int) (l : List Int) : (ordG ps x p l).length ≤ ps.length := by unfold ordG; rw [turnL_len]; exact eldL_len _ _ _
theorem eldL_mem {ps : List Per} {q : Nat → Bool} {n i : Nat} : i ∈ eldL ps q n ↔ i < n ∧ q i = true := by
  unfold eldL wantL
  rw [(List.mergeSort_perm _ _).mem_iff, List.mem_filter, List.mem_range]
theorem eldL_pw (ps : List Per) (q : Nat → Bool) (n : Nat) : (eldL ps q n).Pairwise (fun a b => elT ps a b = true) := by rw [← bySt_eld]; exact bySt_pw ps q n
/-- Of those who are in order, some are. -/
theorem eldL_filter (ps : List Per) (a q : Nat → Bool) (n : Nat) : (eldL ps q n).filter a = eldL ps (fun i => a i && q i) n := by
  have h1 : ((eldL ps q n).filter a).Pairwise (fun a b => elT ps a b = true) := (eldL_pw ps q n).sublist List.filter_sublist
  refine List.Perm.eq_of_pairwise (le := fun a b => elT ps a b = true) (fun a b _ _ h k => ?_) h1 (eldL_pw ps _ n) ?_
  · rw [elT_t] at h k; omega
  · refine ((List.mergeSort_perm _ _).filter a).trans ?_
    refine List.Perm.trans ?_ (List.mergeSort_perm _ _).symm
    unfold wantL
    rw [List.filter_filter]
theorem eldL_ext {ps : List Per} {q q' : Nat → Bool} {n : Nat} (h : ∀ i, i < n → q i = q' i) : eldL ps q n = eldL ps q' n := by unfold eldL; rw [wantL_ext h]
theorem chQ_gt {ps : List Per} (hp : parsIn ps) {p i : Nat} (hi : i < ps.length) (h : chQ ps (p : Int) i = true) : p < i := by
  simp only [chQ, List.getElem?_eq_getElem hi, chB, Bool.or_eq_true, eqI_t] at h
  obtain ⟨h1, h2⟩ := hp i hi
  unfold parIn at h1 h2
  omega
theorem ordL_mem {ps : List Per} (hp : parsIn ps) {x : Cus} {p q : Nat} (h : q ∈ ordL ps x (p : Int)) : q < ps.length ∧ p < q ∧ chQ ps (p : Int) q = true := by
  unfold ordL at h
  obtain ⟨l, _, h⟩ := List.mem_flatMap.1 h
  unfold ordG at h
  rw [turnL_mem, eldL_mem] at h
  obtain ⟨h1, h2⟩ := h
  unfold grpQ at h2
  rw [Bool.and_eq_true] at h2
  exact ⟨h1, chQ_gt hp h1 h2.2, h2.2⟩
theorem sexG_len (p : Int) : (sexG p).length ≤ 2 := by
  unfold sexG
  cases eqI p 1 <;> cases eqI p 2 <;> cases eqI p 3 <;> cases eqI p 4 <;> simp
theorem flat_len {α : Type} (g : α → List Nat) (N : Nat) (hg : ∀ a, (g a).length ≤ N) : ∀ l : List α, (l.flatMap g).length ≤ l.length * N
  | [] => by simp
  | a :: l => by
    have := flat_len g N hg l
    have := hg a
    simp only [List.flatMap_cons, List.length_append, List.length_cons, Nat.add_mul]
    omega
def ordTo (ps : List Per) (x : Cus) (p : Int) (k : Nat) : List Nat := ((sexG x.prefer).take k).flatMap (ordG ps x p)
theorem ordTo_len (ps : List Per) (x : Cus) (p : Int) (k : Nat) : (ordTo ps x p k).length ≤ 2 * ps.length := by
  unfold ordTo
  refine Nat.le_trans (flat_len _ ps.length (ordG_len ps x p) _) (Nat.mul_le_mul_right _ ?_)
  have := sexG_len x.prefer
  rw [List.length_take]; omega
theorem ordTo_all (ps : List Per) (x : Cus) (p : Int) : ordTo ps x p (sexG x.prefer).length = ordL ps x p := by unfold ordTo ordL; rw [List.take_length]
theorem ordL_len (ps : List Per) (x : Cus) (p : Int) : (ordL ps x p).length ≤ 2 * ps.length := by rw [← ordTo_all]; exact ordTo_len _ _ _ _
theorem ordTo_succ (ps : List Per) (x : Cus) (p : Int) {k : Nat} (h : k < (sexG x.prefer).length) : ordTo ps x p (k + 1) = ordTo ps x p k ++ ordG ps x p (sexG x.prefer)[k] := by
  unfold ordTo
  rw [List.take_succ_eq_append_getElem h, List.flatMap_append]
  simp

/-! the model's way -/
def sexOf (ps : List Per) (s : Int) (q : Nat) : Bool := notB (notB (eqI s 0) && notB (eqI (sexD ps q) s))
def ofL (ps : List Per) (x : Cus) (l : List Nat) (s : Int) : List Nat := turnL x.young (l.filter (sexOf ps s))
def chlL (ps : List Per) (x : Cus) (p : Int) : List Nat := match eqI x.prefer 1 with
  | true => ofL ps x (eldL ps (chQ ps p) ps.length) 1 ++ ofL ps x (eldL ps (chQ ps p) ps.length) 2
  | false => match eqI x.prefer 2 with
    | true => ofL ps x (eldL ps (chQ ps p) ps.length) 2 ++ ofL ps x (eldL ps (chQ ps p) ps.length) 1
    | false => match eqI x.prefer 3 with
      | true => ofL ps x (eldL ps (chQ ps p) ps.length) 1
      | false => match eqI x.prefer 4 with
        | true => ofL ps x (eldL ps (chQ ps p) ps.length) 2
        | false => ofL ps x (eldL ps (chQ ps p) ps.length) 0
theorem sexD_ok {ps : List Per} {us : List Uni} (h : famOk ps us = true) {i : Nat} (hi : i < ps.length) : sexD ps i = 1 ∨ sexD ps i = 2 := by
  obtain ⟨_, _, hp, _, _⟩ := famOk_parts h
  obtain ⟨_, _, h1, _⟩ := personOk_spec (personsTo_get hp hi hi)
  simp only [sexD, List.getElem?_eq_getElem hi]
  exact h1
theorem ofL_one {ps : List Per} {us : List Uni} (h : famOk ps us = true) (x : Cus) (p : Int) (l : List Int) (s : Int) (e : ∀ i, i < ps.length → hasI l (sexD ps i) = sexOf ps s i) :
    ordG ps x p l = ofL ps x (eldL ps (chQ ps p) ps.length) s := by
  unfold ordG ofL
  rw [eldL_filter]
  congr 1
  refine eldL_ext fun i hi => ?_
  unfold grpQ
  rw [e i hi]
theorem chl_ord {ps : List Per} {us : List Uni} (h : famOk ps us = true) (x : Cus) (p : Int) : chlL ps x p = ordL ps x p := by
  have e0 : ∀ i, i < ps.length → hasI [1, 2] (sexD ps i) = sexOf ps 0 i := fun i hi => by
    rcases sexD_ok h hi with e | e <;> (unfold sexOf; rw [e]; simp [hasI, notB_d, eqI_d])
  have e1 : ∀ i, i < ps.length → hasI [1] (sexD ps i) = sexOf ps 1 i := fun i hi => by
    rcases sexD_ok h hi with e | e <;> (unfold sexOf; rw [e]; simp [hasI, notB_d, eqI_d])
  have e2 : ∀ i, i < ps.length → hasI [2] (sexD ps i) = sexOf ps 2 i := fun i hi => by
    rcases sexD_ok h hi with e | e <;> (unfold sexOf; rw [e]; simp [hasI, notB_d, eqI_d])
  unfold chlL ordL sexG
  cases eqI x.prefer 1
  · cases eqI x.prefer 2
    · cases eqI x.prefer 3
      · cases eqI x.prefer 4 <;> simp [ofL_one h x p _ _ e0, ofL_one h x p _ _ e2]
      · simp [ofL_one h x p _ _ e1]
    · simp [ofL_one h x p _ _ e1, ofL_one h x p _ _ e2]
  · simp [ofL_one h x p _ _ e1, ofL_one h x p _ _ e2]

/-! ### Who is alive, and the heirs below, those of the first places first -/
def aliveB (q : Per) (y : Int) : Bool := leI q.born y && (eqI q.died (-1) || ltI y q.died)
def alv (ps : List Per) (y : Int) (i : Nat) : Bool := match ps[i]? with | some q => aliveB q y | none => false
/-- All heirs below, as often as there are ways down. -/
def desL (ps : List Per) (x : Cus) (y : Int) : Nat → Nat → List Nat
  | 0, _ => []
  | d + 1, p => (ordL ps x (p : Int)).flatMap fun c => (match alv ps y c with | true => [c] | false => []) ++ (match alv ps y c || x.repr with | true => desL ps x y d c | false => [])
theorem flat_congr {α β : Type} {f g : α → List β} : ∀ (l : List α), (∀ a ∈ l, f a = g a) → l.flatMap f = l.flatMap g
  | [], _ => rfl
  | a :: l, h => by
    rw [List.flatMap_cons, List.flatMap_cons, h a (by simp), flat_congr l fun b hb => h b (by simp [hb])]
theorem desL_fuel {ps : List Per} (hp : parsIn ps) (x : Cus) (y : Int) : ∀ (d d' p : Nat), ps.length ≤ p + d → ps.length ≤ p + d' → desL ps x y d p = desL ps x y d' p
  | 0, d', p, h, h' => by
    have e : ordL ps x (p : Int) = [] := List.eq_nil_iff_forall_not_mem.2 fun q hq => by have := ordL_mem hp hq; omega
    cases d' with
    | zero => rfl
    | succ d' => simp [desL, e]
  | d + 1, 0, p, h, h' => by
    have e : ordL ps x (p : Int) = [] := List.eq_nil_iff_forall_not_mem.2 fun q hq => by have := ordL_mem hp hq; omega
    simp [desL, e]
  | d + 1, d' + 1, p, h, h' => by
    unfold desL
    refine flat_congr _ fun c hc => ?_
    have := ordL_mem hp hc
    rw [desL_fuel hp x y d d' c (by omega) (by omega)]
def desN (ps : List Per) (x : Cus) (y : Int) (p : Nat) : List Nat := desL ps x y ps.length p
def ownN (ps : List Per) (y : Int) (c : Nat) : List Nat := match alv ps y c with | true => [c] | false => []
def brN (ps : List Per) (x : Cus) (y : Int) (c : Nat) : List Nat := ownN ps y c ++ (match alv ps y c || x.repr with | true => desN ps x y c | false => [])
theorem desN_eq {ps : List Per} (hp : parsIn ps) (x : Cus) (y : Int) (p : Nat) : desN ps x y p = (ordL ps x (p : Int)).flatMap (brN ps x y) := by
  rw [show desN ps x y p = desL ps x y (ps.length + 1) p from desL_fuel hp x y _ _ _ (by omega) (by omega)]
  unfold desL brN ownN desN
  rfl
theorem desN_mem {ps : List Per} (hp : parsIn ps) (x : Cus) (y : Int) : ∀ (d p : Nat), ps.length ≤ p + d → ∀ q ∈ desN ps x y p, p < q ∧ q < ps.length ∧ alv ps y q = true
  | 0, p, h, q, hq => by
    rw [desN_eq hp] at hq
    obtain ⟨c, hc, _⟩ := List.mem_flatMap.1 hq
    have := ordL_mem hp hc; omega
  | d + 1, p, h, q, hq => by
    rw [desN_eq hp] at hq
    obtain ⟨c, hc, hq⟩ := List.mem_flatMap.1 hq
    have hc' := ordL_mem hp hc
    unfold brN ownN at hq
    rcases List.mem_append.1 hq with hq | hq
    · cases e : alv ps y c <;> rw [e] at hq
      · simp at hq
      · simp at hq; subst hq; exact ⟨hc'.2.1, hc'.1, e⟩
    · cases e : alv ps y c || x.repr <;> rw [e] at hq
      · simp at hq
      · obtain ⟨h1, h2, h3⟩ := desN_mem hp x y d c (by omega) q hq
        exact ⟨by omega, h2, h3⟩

/-! ### One after the other, nobody twice -/
def stpO (I : Nat → Bool) (out : List Nat) (c : Nat) : List Nat := match I c || out.contains c with | true => out | false => out ++ [c]
def fldO (I : Nat → Bool) (out l : List Nat) : List Nat := l.foldl (stpO I) out
theorem fldO_app (I : Nat → Bool) (out l m : List Nat) : fldO I out (l ++ m) = fldO I (fldO I out l) m := by unfold fldO; rw [List.foldl_append]
theorem fldO_sub (I : Nat → Bool) : ∀ (l out : List Nat) (q : Nat), q ∈ out → q ∈ fldO I out l
  | [], out, q, h => h
  | c :: l, out, q, h => by
    show q ∈ fldO I (stpO I out c) l
    refine fldO_sub I l _ q ?_
    unfold stpO
    split
    · exact h
    · exact List.mem_append_left _ h
theorem fldO_in (I : Nat → Bool) : ∀ (l out : List Nat) (q : Nat), q ∈ l → I q = true ∨ q ∈ fldO I out l
  | [], out, q, h => by simp at h
  | c :: l, out, q, h => by
    rcases List.mem_cons.1 h with rfl | h
    · by_cases hI : I q = true
      · exact .inl hI
      · refine .inr (fldO_sub I l _ q ?_)
        unfold stpO
        split
        · rename_i e
          rw [Bool.or_eq_true] at e
          rcases e with e | e
          · exact absurd e hI
          · simpa using e
        · simp
    · exact fldO_in I l _ q h
theorem fldO_mem (I : Nat → Bool) : ∀ (l out : List Nat) (q : Nat), q ∈ fldO I out l → q ∈ out ∨ (q ∈ l ∧ I q = false)
  | [], out, q, h => .inl h
  | c :: l, out, q, h => by
    rcases fldO_mem I l (stpO I out c) q h with h | ⟨h, h2⟩
    · unfold stpO at h
      split at h
      · exact .inl h
      · rename_i e
        rcases List.mem_append.1 h with h | h
        · exact .inl h
        · simp at h; subst h
          rw [Bool.or_eq_false_iff] at e
          exact .inr ⟨by simp, e.1⟩
    · exact .inr ⟨by simp [h], h2⟩
theorem fldO_id (I : Nat → Bool) : ∀ (l out : List Nat), (∀ q ∈ l, I q = true ∨ q ∈ out) → fldO I out l = out
  | [], out, _ => rfl
  | c :: l, out, h => by
    have e : stpO I out c = out := by
      unfold stpO
      rcases h c (by simp) with e | e
      · simp [e]
      · simp [e]
    show fldO I (stpO I out c) l = out
    rw [e]
    exact fldO_id I l out fun q hq => h q (by simp [hq])
theorem stpO_nodup {I : Nat → Bool} {out : List Nat} {c : Nat} (h : out.Nodup) : (stpO I out c).Nodup := by
  unfold stpO
  split
  · exact h
  · rename_i e
    rw [Bool.or_eq_false_iff] at e
    rw [List.nodup_append]
    refine ⟨h, by simp, fun a ha b hb => ?_⟩
    simp at hb; subst hb
    intro e2; subst e2
    simp [ha] at e
theorem fldO_nodup (I : Nat → Bool) : ∀ (l out : List Nat), out.Nodup → (fldO I out l).Nodup
  | [], out, h => h
  | c :: l, out, h => fldO_nodup I l _ (stpO_nodup h)

/-! ### The program's way: who is met is not met again -/
def insP (M : Nat → Bool) (c : Nat) : Nat → Bool := fun i => if i = c then true else M i
def stpI (ps : List Per) (x : Cus) (y : Int) (rec : Nat → (Nat → Bool) × List Nat → (Nat → Bool) × List Nat) (S : (Nat → Bool) × List Nat) (c : Nat) : (Nat → Bool) × List Nat :=
  match S.1 c || (notB (alv ps y c) && notB x.repr) with
  | true => S
  | false => rec c (insP S.1 c, match alv ps y c with | true => S.2 ++ [c] | false => S.2)
def addI (ps : List Per) (x : Cus) (y : Int) : Nat → Nat → (Nat → Bool) × List Nat → (Nat → Bool) × List Nat
  | 0, _, S => S
  | d + 1, p, S => (ordL ps x (p : Int)).foldl (stpI ps x y (addI ps x y d)) S
def clo (ps : List Per) (x : Cus) (y : Int) (I : Nat → Bool) (out : List Nat) (m : Nat) : Prop := ∀ q ∈ brN ps x y m, I q = true ∨ q ∈ out
structure Ok (ps : List Per) (I : Nat → Bool) (S : (Nat → Bool) × List Nat) : Prop where
  i : ∀ q, I q = true → S.1 q = true
  o : ∀ q ∈ S.2, S.1 q = true
  nd : S.2.Nodup
  lt : ∀ q ∈ S.2, q < ps.length
theorem clo_mono {ps : List Per} {x : Cus} {y : Int} {I : Nat → Bool} {out l : List Nat} {m : Nat} (h : clo ps x y I out m) : clo ps x y I (fldO I out l) m := fun q hq => by
  rcases h q hq with h | h
  · exact .inl h
  · exact .inr (fldO_sub I l out q h)
theorem nodup_lt : ∀ (n : Nat) (l : List Nat), l.Nodup → (∀ q ∈ l, q < n) → l.length ≤ n := fun n l h k => by
  have := pigeon n (l.map fun q : Nat => (q : Int)) (by
    unfold List.Nodup at h ⊢
    rw [List.pairwise_map]
    exact h.imp fun e e2 => e (by omega)) fun x hx => by
    obtain ⟨q, hq, rfl⟩ := List.mem_map.1 hx
    have := k q hq
    omega
  simpa using this
theorem Ok.len {ps : List Per} {I : Nat → Bool} {S : (Nat → Bool) × List Nat} (h : Ok ps I S) : S.2.length ≤ ps.length := nodup_lt _ _ h.nd h.lt
structure Went (ps : List Per) (x : Cus) (y : Int) (I : Nat → Bool) (p : Nat) (S : (Nat → Bool) × List Nat) (l : List Nat) (R : (Nat → Bool) × List Nat) : Prop where
  ok : Ok ps I R
  out : R.2 = fldO I S.2 l
  keep : ∀ m, S.1 m = true → R.1 m = true
  new : ∀ m, R.1 m = true → S.1 m = true ∨ p < m
  cl : ∀ m, R.1 m = true → p < m → clo ps x y I R.2 m
theorem Went.refl {ps : List Per} {x : Cus} {y : Int} {I : Nat → Bool} {p : Nat} {S : (Nat → Bool) × List Nat} {l : List Nat} (ok : Ok ps I S) (hc : ∀ m, S.1 m = true → p < m → clo ps x y I S.2 m) (hl : ∀ q ∈ l, I q = true ∨ q ∈ S.2) : Went ps x y I p S l S :=
  ⟨ok, (fldO_id I l S.2 hl).symm, fun _ h => h, fun _ h => .inl h, hc⟩
theorem Went.trans {ps : List Per} {x : Cus} {y : Int} {I : Nat → Bool} {p : Nat} {S R Q : (Nat → Bool) × List Nat} {l m : List Nat} (h : Went ps x y I p S l R) (k : Went ps x y I p R m Q) : Went ps x y I p S (l ++ m) Q :=
  ⟨k.ok, by rw [k.out, h.out, fldO_app], fun q hq => k.keep q (h.keep q hq), fun q hq => by
    rcases k.new q hq with e | e
    · exact h.new q e
    · exact .inr e, k.cl⟩
theorem stpI_ok {ps : List Per} {x : Cus} {y : Int} {I : Nat → Bool} {p : Nat} {rec : Nat → (Nat → Bool) × List Nat → (Nat → Bool) × List Nat} {c : Nat} (hpc : p < c) (hc : c < ps.length)
    (IH : ∀ S, Ok ps I S → (∀ m, S.1 m = true → c < m → clo ps x y I S.2 m) → Went ps x y I c S (desN ps x y c) (rec c S)) {S : (Nat → Bool) × List Nat} (ok : Ok ps I S) (hS : ∀ m, S.1 m = true → p < m → clo ps x y I S.2 m) :
    Went ps x y I p S (brN ps x y c) (stpI ps x y rec S c) := by
  unfold stpI
  cases h1 : S.1 c
  · cases h2 : (notB (alv ps y c) && notB x.repr)
    · simp only [Bool.or_self]
      have hI : I c = false := by
        cases e : I c
        · rfl
        · rw [ok.i c e] at h1; cases h1
      have hO : c ∉ S.2 := fun e => by rw [ok.o c e] at h1; cases h1
      have hown : (match alv ps y c with | true => S.2 ++ [c] | false => S.2) = fldO I S.2 (ownN ps y c) := by
        unfold ownN fldO
        cases alv ps y c
        · rfl
        · show _ = stpO I S.2 c
          unfold stpO
          rw [hI]
          simp [hO]
      have hor : (alv ps y c || x.repr) = true := by
        cases e1 : alv ps y c <;> cases e2 : x.repr <;> simp [e1, e2, notB] at h2 ⊢
      have hbr : brN ps x y c = ownN ps y c ++ desN ps x y c := by unfold brN; rw [hor]
      rw [hown]
      have ok1 : Ok ps I (insP S.1 c, fldO I S.2 (ownN ps y c)) := by
        have hin : ∀ q ∈ fldO I S.2 (ownN ps y c), q ∈ S.2 ∨ q = c := fun q hq => by
          rcases fldO_mem I _ _ q hq with h | ⟨h, _⟩
          · exact .inl h
          · unfold ownN at h
            split at h <;> simp at h
            exact .inr h
        refine ⟨fun q hq => ?_, fun q hq => ?_, fldO_nodup I _ _ ok.nd, fun q hq => ?_⟩
        · simp only [insP]; split
          · rfl
          · exact ok.i q hq
        · simp only [insP]; split
          · rfl
          · rename_i e; rcases hin q hq with h | h
            · exact ok.o q h
            · exact absurd h e
        · rcases hin q hq with h | h
          · exact ok.lt q h
          · subst h; exact hc
      have r := IH _ ok1 fun m hm hcm => by
        simp only [insP] at hm
        rw [if_neg (by omega)] at hm
        exact clo_mono (hS m hm (by omega))
      have rout : (rec c (insP S.1 c, fldO I S.2 (ownN ps y c))).2 = fldO I S.2 (brN ps x y c) := by rw [r.out, hbr, fldO_app]
      refine ⟨r.ok, rout, fun m hm => r.keep m ?_, fun m hm => ?_, fun m hm hpm => ?_⟩
      · simp only [insP]; split
        · rfl
        · exact hm
      · rcases r.new m hm with e | e
        · simp only [insP] at e
          split at e
          · rename_i e2; subst e2; exact .inr hpc
          · exact .inl e
        · exact .inr (by omega)
      · by_cases hcm : c < m
        · exact r.cl m hm hcm
        · rw [rout]
          by_cases e : m = c
          · subst e
            exact fun q hq => fldO_in I _ _ q hq
          · rcases r.new m hm with e2 | e2
            · simp only [insP] at e2
              rw [if_neg e] at e2
              exact clo_mono (hS m e2 hpm)
            · omega
    · simp only [Bool.or_true]
      refine Went.refl ok hS fun q hq => ?_
      have : brN ps x y c = [] := by
        unfold brN ownN
        cases e1 : alv ps y c <;> cases e2 : x.repr <;> simp [e1, e2, notB] at h2 ⊢
      rw [this] at hq
      simp at hq
  · simp only [Bool.true_or]
    exact Went.refl ok hS (hS c h1 hpc)
theorem addI_ok {ps : List Per} (hp : parsIn ps) (x : Cus) (y : Int) (I : Nat → Bool) : ∀ (d p : Nat), ps.length ≤ p + d → ∀ S : (Nat → Bool) × List Nat, Ok ps I S → (∀ m, S.1 m = true → p < m → clo ps x y I S.2 m) →
    Went ps x y I p S (desN ps x y p) (addI ps x y d p S)
  | 0, p, h, S, ok, hc => by
    have e : ordL ps x (p : Int) = [] := List.eq_nil_iff_forall_not_mem.2 fun q hq => by have := ordL_mem hp hq; omega
    refine Went.refl ok hc fun q hq => ?_
    rw [desN_eq hp, e] at hq
    simp at hq
  | d + 1, p, h, S, ok, hc => by
    rw [desN_eq hp]
    unfold addI
    have hL : ∀ c ∈ ordL ps x (p : Int), p < c ∧ c < ps.length := fun c hc => ⟨(ordL_mem hp hc).2.1, (ordL_mem hp hc).1⟩
    generalize ordL ps x (p : Int) = L at hL
    induction L generalizing S with
    | nil => exact Went.refl ok hc fun q hq => by simp at hq
    | cons c L ih =>
      obtain ⟨h1, h2⟩ := hL c (by simp)
      have r := stpI_ok (rec := addI ps x y d) h1 h2 (fun S' ok' hS' => addI_ok hp x y I d c (by omega) S' ok' hS') ok hc
      rw [List.flatMap_cons, List.foldl_cons]
      exact r.trans (ih _ r.ok r.cl fun c' hc' => hL c' (by simp [hc']))
end Go.Proofs.YtbiagkccgijdlaaGreat


namespace Go.Proofs.YtbiagkccgijdlaaGreat
open Go.Lg Go.Pm
set_option maxHeartbeats 1600000
set_option maxRecDepth 10000
set_option linter.unusedVariables false
set_option linter.unusedSimpArgs false

/-! ### Customs -/
def prefL : List LV := [.str ⟨#[97, 110, 121]⟩, .str ⟨#[109, 101, 110]⟩, .str ⟨#[119, 111, 109, 101, 110]⟩, .str ⟨#[111, 110, 108, 121, 32, 109, 101, 110]⟩, .str ⟨#[111, 110, 108, 121, 32, 119, 111, 109, 101, 110]⟩]
theorem words_spec : FSpec env.P 53 [] (.own 9 1 prefL) := by
  refine FSpec_of_code env_ok (fn := Tryz.f53) Tryz.func53 rfl Tryz.call53 _ _ ?_
  ((repeat ((conv => whnf); first | refine brT ?_ | refine brF ?_)); conv => whnf)
  exact ⟨rfl, rfl, rfl, rfl, by simp⟩
theorem cus_spec (x : Cus) : FSpec env.P 23 [x.lv] (.bool (cusOk x)) := by
  have h := l1In_spec x.prefer 0 4
  unfold cusOk
  obtain ⟨p, y, r⟩ := x
  refine FSpec_of_code env_ok (fn := Tryz.f23) Tryz.func23 rfl Tryz.call23 _ _ ?_
  ((repeat ((conv => whnf); first | refine brT ?_ | refine brF ?_)); conv => whnf)
  refine ⟨_, h, ?_⟩
  ((repeat ((conv => whnf); first | refine brT ?_ | refine brF ?_)); conv => whnf)
  exact fin rfl
theorem cus_bel (x : Cus) : belI x.prefer ((5 : Nat) : Int) = cusOk x := by
  unfold belI cusOk
  congr 1
  rw [Bool.eq_iff_iff, ltI_t, leI_t]
  omega
theorem cus_impl (x : Cus) : FSpec env.P 28 [x.lv] (.bool (cusOk x)) := by
  have h := isBelow_spec x.prefer 5
  rw [← cus_bel]
  obtain ⟨p, y, r⟩ := x
  refine FSpec_of_code env_ok (fn := Tryz.f28) Tryz.func28 rfl Tryz.call28 _ _ ?_
  ((repeat ((conv => whnf); first | refine brT ?_ | refine brF ?_)); conv => whnf)
  refine ⟨true, by kernel_rfl, ?_⟩
  ((repeat ((conv => whnf); first | refine brT ?_ | refine brF ?_)); conv => whnf)
  refine ⟨_, words_spec, ?_⟩
  ((repeat ((conv => whnf); first | refine brT ?_ | refine brF ?_)); conv => whnf)
  intro _
  ((repeat ((conv => whnf); first | refine brT ?_ | refine brF ?_)); conv => whnf)
  refine ⟨_, h, ?_⟩
  ((repeat ((conv => whnf); first | refine brT ?_ | refine brF ?_)); conv => whnf)
  exact fin rfl
theorem toCus_spec (x : Cus) : FSpec env.P 8 [x.lv] x.lv := by
  obtain ⟨p, y, r⟩ := x
  refine FSpec_of_code env_ok (fn := Tryz.f8) Tryz.func8 rfl Tryz.call8 _ _ ?_
  ((repeat ((conv => whnf); first | refine brT ?_ | refine brF ?_)); conv => whnf)
  refine ⟨_, rfl, rfl, ?_⟩
  simp [Cus.lv, exW, exsW]
abbrev shCus : Sh := .st [.int .i64, .bool, .bool]
theorem cus_of_sh {x : LV} (h : hasSh shCus x) : ∃ l : Cus, x = l.lv ∧ True := by
  simp only [hasSh] at h
  obtain ⟨xs, rfl, h⟩ := h
  match xs, h with
  | [a, b, c], h =>
    simp only [hasShs, hasSh] at h
    obtain ⟨⟨a, rfl⟩, ⟨b, rfl⟩, ⟨c, rfl⟩, _⟩ := h
    exact ⟨⟨a, b, c⟩, rfl, trivial⟩
  | [], h => simp [hasShs] at h
  | [_], h => simp [hasShs] at h
  | [_, _], h => simp [hasShs] at h
  | _ :: _ :: _ :: _ :: _, h => simp [hasShs] at h
end Go.Proofs.YtbiagkccgijdlaaGreat

namespace Go.Proofs.YtbiagkccgijdlaaGreat
open Go.Lg Go.Pm
set_option maxHeartbeats 3200000
set_option maxRecDepth 10000
set_option linter.unusedVariables false
set_option linter.unusedSimpArgs false

/-! ### Reversed in place -/
/-- After k rounds: the outer k are swapped. -/
def rvD (xs : List Nat) (k i : Nat) : Nat := match decide (i < k) || decide (xs.length ≤ i + k) with | true => xs.getD (xs.length - 1 - i) 0 | false => xs.getD i 0
def rvTo (xs : List Nat) (k : Nat) : List Nat := (List.range xs.length).map (rvD xs k)
theorem rvTo_len (xs : List Nat) (k : Nat) : (rvTo xs k).length = xs.length := by simp [rvTo]
theorem rvTo_zero (xs : List Nat) : rvTo xs 0 = xs := by
  apply List.ext_getElem (by simp [rvTo])
  intro i h1 h2
  have : ¬ xs.length ≤ i := by omega
  simp [rvTo, rvD, this, h2]
theorem rvTo_end (xs : List Nat) {k : Nat} (h : xs.length ≤ k + k + 1) : rvTo xs k = xs.reverse := by
  apply List.ext_getElem (by simp [rvTo])
  intro i h1 h2
  have hi : i < xs.length := by simpa using h2
  rw [List.getElem_reverse]
  simp only [rvTo, List.getElem_map, List.getElem_range, rvD]
  split
  · rw [List.getD_eq_getElem?_getD, List.getElem?_eq_getElem (by omega)]; rfl
  · rename_i e
    rw [Bool.or_eq_false_iff, decide_eq_false_iff_not, decide_eq_false_iff_not] at e
    have : i = xs.length - 1 - i := by omega
    rw [List.getD_eq_getElem?_getD, List.getElem?_eq_getElem (by omega)]
    simp only [Option.getD_some]
    congr 1
theorem rvTo_get {xs : List Nat} {k i : Nat} (h : i < xs.length) : (rvTo xs k)[i]? = some (rvD xs k i) := by simp [rvTo, h]
theorem rvTo_swap {xs : List Nat} {k : Nat} (h : k + k + 1 < xs.length) :
    ((rvTo xs k).set k (rvD xs k (xs.length - 1 - k))).set (xs.length - 1 - k) (rvD xs k k) = rvTo xs (k + 1) := by
  apply List.ext_getElem (by simp [rvTo])
  intro i h1 h2
  have hi : i < xs.length := by simpa [rvTo] using h2
  rw [List.getElem_set, List.getElem_set]
  simp only [rvTo, List.getElem_map, List.getElem_range]
  by_cases e1 : xs.length - 1 - k = i
  · subst e1
    simp only [if_true, rvD]
    have a1 : ¬ k < k := by omega
    have a2 : ¬ xs.length ≤ k + k := by omega
    have a3 : xs.length ≤ xs.length - 1 - k + (k + 1) := by omega
    have a4 : xs.length - 1 - (xs.length - 1 - k) = k := by omega
    simp [a1, a2, a3, a4]
  · rw [if_neg e1]
    by_cases e2 : k = i
    · subst e2
      simp only [if_true, rvD]
      have b1 : ¬ xs.length - 1 - k < k := by omega
      have b2 : ¬ xs.length ≤ xs.length - 1 - k + k := by omega
      simp [b1, b2]
    · rw [if_neg e2]
      unfold rvD
      have c1 : (decide (i < k) || decide (xs.length ≤ i + k)) = (decide (i < k + 1) || decide (xs.length ≤ i + (k + 1))) := by
        rw [Bool.eq_iff_iff, Bool.or_eq_true, Bool.or_eq_true, decide_eq_true_eq, decide_eq_true_eq, decide_eq_true_eq, decide_eq_true_eq]
        omega
      rw [c1]
theorem set_nat {xs : List Nat} {i x : Nat} : (xs.map natLV).set i (.int .i64 (x : Int)) = (xs.set i x).map natLV := by
  rw [List.map_set]; rfl
theorem getP1 {xs : List LV} {i : Nat} {x : LV} (h : xs[i]? = some x) : getP (.st xs) [i] = some x := by
  show (match xs[i]? with | some x => getP x [] | none => none) = _
  rw [h]
  cases x <;> rfl
theorem reverse_h (xs : List Nat) (hl : xs.length ≤ 1048576) :
    HSpec env.P 120 [.hs 0 (xs.map natLV).length] [.arr 3 1 (xs.map natLV)] (.tup []) [.arr 3 1 (xs.reverse.map natLV)] := by
  refine HSpec_of_code (E := env.x [] 1) env_ok.x (fn := Tryz.f120) Tryz.func120 rfl Tryz.call120 _ _ _ _ ?_
  have hX := nats_len xs
  have hw : IntKind.i64.wrap ((xs.length : Int) - 1) = (xs.length : Int) - 1 := wrap64 (by omega) (by omega)
  rw [hX]
  ((repeat ((conv => whnf); first | refine brT ?_ | refine brF ?_)); conv => whnf)
  refine ⟨hX.symm, fun _ => ?_⟩
  rw [hX]
  ((repeat ((conv => whnf); first | refine brT ?_ | refine brF ?_)); conv => whnf)
  rw [hw]
  ((repeat ((conv => whnf); first | refine brT ?_ | refine brF ?_)); conv => whnf)
  refine loop_ruleR (α := Nat) [.old 0] (fun k => [(2, .int .i64 (k : Int)), (3, .int .i64 ((xs.length : Int) - 1 - (k : Int)))]) (fun k => [.arr 3 1 ((rvTo xs k).map natLV)]) (fun k => xs.length - k) (fun k => k + k ≤ xs.length) 0 (by omega) ?_ ?_
  · refine ⟨?_, ⟨rfl, congrArg (fun l : List Nat => Blk.arr 3 1 (l.map natLV)) (rvTo_zero xs).symm, trivial⟩, rfl⟩
    have e0 : LV.int .i64 ((xs.length : Int) - 1) = .int .i64 ((xs.length : Int) - 1 - ((0 : Nat) : Int)) := by simp
    repeat ((conv => whnf); first | refine ⟨rfl, e0, ?_⟩ | refine ⟨rfl, rfl, ?_⟩)
    trivial
  intro k hk
  generalize hK : kk _ = KK
  ((repeat ((conv => whnf); first | refine brT ?_ | refine brF ?_)); conv => whnf)
  (refine ⟨fun g1 => ?_, fun g1 => ?_⟩ <;> rw [g1])
  · have h2 : k + k + 1 < xs.length := by rw [ltI_t] at g1; omega
    ((repeat ((conv => whnf); first | refine brT ?_ | refine brF ?_)); conv => whnf)
    refine ⟨false, 0, 0, 4, [2, 3, 0, 1, 4, 5, 6, 7, 8, 9, 10, 11], (.one 12 (.one 13 (.one 14 (.one 15 .done)))), by kernel_rfl, by kernel_rfl, ?_⟩
    have hLk : ((rvTo xs k).map natLV).length = xs.length := by rw [List.length_map, rvTo_len]
    have gj : ((rvTo xs k).map natLV)[xs.length - 1 - k]? = some (.int .i64 ((rvD xs k (xs.length - 1 - k) : Nat) : Int)) := by rw [List.getElem?_map, rvTo_get (by omega)]; rfl
    have gk : ((rvTo xs k).map natLV)[k]? = some (.int .i64 ((rvD xs k k : Nat) : Int)) := by rw [List.getElem?_map, rvTo_get (by omega)]; rfl
    ((repeat ((conv => whnf); first | refine brT ?_ | refine brF ?_)); conv => whnf)
    refine ⟨hLk.symm, rfl, xs.length - 1 - k, by omega, by omega, ?_⟩
    ((repeat ((conv => whnf); first | refine brT ?_ | refine brF ?_)); conv => whnf)
    refine ⟨hLk.symm, by simp, _, getP1 gj, rfl, ?_⟩
    ((repeat ((conv => whnf); first | refine brT ?_ | refine brF ?_)); conv => whnf)
    refine ⟨hLk.symm, rfl, k, rfl, by omega, ?_⟩
    ((repeat ((conv => whnf); first | refine brT ?_ | refine brF ?_)); conv => whnf)
    refine ⟨hLk.symm, by simp, _, getP1 gk, rfl, ?_⟩
    ((repeat ((conv => whnf); first | refine brT ?_ | refine brF ?_)); conv => whnf)
    apply Exists.intro
    apply Exists.intro
    refine And.intro ?_ ?_
    · refine Weak.idn ?_ ?_ rfl
      · ((repeat ((conv => whnf); refine ⟨rfl, ?_⟩)); trivial)
      · exact ⟨rfl, trivial⟩
    ((repeat ((conv => whnf); first | refine brT ?_ | refine brF ?_)); conv => whnf)
    refine ⟨hLk.symm, rfl, k, rfl, by omega, ?_⟩
    ((repeat ((conv => whnf); first | refine brT ?_ | refine brF ?_)); conv => whnf)
    refine ⟨hLk.symm, k, [], _, rfl, getP1 gk, rfl, rfl, rfl, ((rvTo xs k).set k (rvD xs k (xs.length - 1 - k))).map natLV, by rw [gk]; exact set_nat, ?_⟩
    have hL2 : ((((rvTo xs k).set k (rvD xs k (xs.length - 1 - k)))).map natLV).length = xs.length := by rw [List.length_map, List.length_set, rvTo_len]
    have gj2 : (((rvTo xs k).set k (rvD xs k (xs.length - 1 - k))).map natLV)[xs.length - 1 - k]? = some (.int .i64 ((rvD xs k (xs.length - 1 - k) : Nat) : Int)) := by
      rw [List.getElem?_map, List.getElem?_set_ne (by omega), rvTo_get (by omega)]; rfl
    ((repeat ((conv => whnf); first | refine brT ?_ | refine brF ?_)); conv => whnf)
    refine ⟨hL2.symm, rfl, xs.length - 1 - k, by omega, by omega, ?_⟩
    ((repeat ((conv => whnf); first | refine brT ?_ | refine brF ?_)); conv => whnf)
    refine ⟨hL2.symm, xs.length - 1 - k, [], _, rfl, getP1 gj2, rfl, rfl, rfl, (((rvTo xs k).set k (rvD xs k (xs.length - 1 - k))).set (xs.length - 1 - k) (rvD xs k k)).map natLV, by rw [gj2]; exact set_nat, ?_⟩
    rw [rvTo_swap h2]
    have e := step_i (show k < xs.length by omega) (show xs.length ≤ Go.maxLen by unfold Go.maxLen; omega)
    have e2 : LV.int .i64 (IntKind.i64.wrap ((xs.length : Int) - 1 - (k : Int) - 1)) = .int .i64 ((xs.length : Int) - 1 - ((k + 1 : Nat) : Int)) := by
      rw [wrap64 (by omega) (by omega)]; congr 1; omega
    ((repeat ((conv => whnf); first | refine brT ?_ | refine brF ?_)); conv => whnf)
    subst hK
    refine round_endR [.old 0] (k + 1) (by omega) (by omega) ⟨?_, ⟨rfl, rfl, trivial⟩, rfl⟩
    repeat ((conv => whnf); first | refine ⟨rfl, e, ?_⟩ | refine ⟨rfl, e2, ?_⟩ | refine ⟨rfl, rfl, ?_⟩)
    trivial
  · have h2 : xs.length ≤ k + k + 1 := by rw [ltI_f] at g1; omega
    subst hK
    rw [← rvTo_end xs h2]
    ((repeat ((conv => whnf); first | refine brT ?_ | refine brF ?_)); conv => whnf)
    exact ⟨[], rfl, rfl, .inr ⟨[.old 0], trivial, ⟨rfl, rfl, trivial⟩, rfl⟩⟩
end Go.Proofs.YtbiagkccgijdlaaGreat


namespace Go.Proofs.YtbiagkccgijdlaaGreat
open Go.Lg
set_option maxHeartbeats 1600000
set_option maxRecDepth 10000
set_option linter.unusedVariables false
set_option linter.unusedSimpArgs false
set_option linter.unusedSectionVars false

/-! ### What is put together by keys, in the order of the first ones: over keys of any kind that a map may have -/
section
variable {κ : Type} [DecidableEq κ]
end

/-! ### Lines: by what each number stands for -/
end Go.Proofs.YtbiagkccgijdlaaGreat


namespace Go.Proofs.YtbiagkccgijdlaaGreat
open Go.Lg
set_option maxHeartbeats 3200000
set_option maxRecDepth 10000
set_option linter.unusedVariables false
set_option linter.unusedSimpArgs false

end Go.Proofs.YtbiagkccgijdlaaGreat

namespace Go.Proofs.YtbiagkccgijdlaaGreat
open Go.Lg Go.Pm
set_option maxHeartbeats 3200000
set_option maxRecDepth 10000
set_option linter.unusedVariables false
set_option linter.unusedSimpArgs false

theorem rows_f {f : FuncId} {args : List LV} {rs : List (List Int)} (h : HSpec env.P f args [] (.hs 0 (rs.map rowOw).length) [.tree 64 1 (rs.map rowOw)]) : FSpec env.P f args (.own 64 1 (rs.map rowSl)) :=
  FSpec_of_tree h (by rw [dms_rows]; simp [exW])
end Go.Proofs.YtbiagkccgijdlaaGreat

namespace Go.Proofs.YtbiagkccgijdlaaGreat
open Go.Lg Go.Pm
set_option maxHeartbeats 3200000
set_option maxRecDepth 10000
set_option linter.unusedVariables false
set_option linter.unusedSimpArgs false

theorem eldest3_h (ps : List Per) (us : List Uni) (F : Nat) (x y z : LV) (q : Nat → Bool) (hl : ps.length ≤ 40) (hF : ∀ i, i < ps.length → FSpec env.P F [.int .i64 (i : Int), .ref x, .ref y, .ref z] (.bool (q i))) :
    HSpec env.P 117 [famLV ps us, .clos F [.ref x, .ref y, .ref z]] [] (.hs 0 ((eldL ps q ps.length).map natLV).length) [.arr 3 1 ((eldL ps q ps.length).map natLV)] := by
  refine HSpec_of_code (E := env.x [141, 142] 0) env_ok.x (fn := Tryz.f117) Tryz.func117 rfl Tryz.call117 _ _ _ _ ?_
  have hwl := wantL_len q ps.length
  have hso := sortAge_h ps us (wantL q ps.length) (fun x hx => wantL_lt hx) (by omega)
  have er : (rowW q ps.length).length = (wantL q ps.length).length := by unfold rowW; rw [List.length_map]
  have hpw := people3_h ps us F x y z q hl hF
  rw [er] at hpw
  ((repeat ((conv => whnf); first | refine brT ?_ | refine brF ?_)); conv => whnf)
  refine ⟨[], _, _, _, _, hpw, rfl, rfl, rfl, trivial, ?_⟩
  ((repeat ((conv => whnf); first | refine brT ?_ | refine brF ?_)); conv => whnf)
  refine ⟨[0, 1], _, _, _, _, hso, rfl, rfl, rfl, trivial, ?_⟩
  ((repeat ((conv => whnf); first | refine brT ?_ | refine brF ?_)); conv => whnf)
  have el : (wantL q ps.length).length = ((eldL ps q ps.length).map natLV).length := by unfold eldL; rw [List.length_map, List.length_mergeSort]
  exact ⟨[.hs 0 (wantL q ps.length).length], by simp only [tupOf]; rw [el], rfl, .inr ⟨[.old 1], ⟨rfl, rfl, trivial⟩, ⟨rfl, rfl, trivial⟩, rfl⟩⟩
theorem containsW_spec (l : List Int) (x : Int) : FSpec env.P 119 [.sl (l.map intLV), .int .i64 x] (.bool (hasI l x)) := by
  refine FSpec_of_code env_ok (fn := Tryz.f119) Tryz.func119 rfl Tryz.call119 _ _ ?_
  have h := indexI_spec l x
  rw [← ixI_has x l 0]
  ((repeat ((conv => whnf); first | refine brT ?_ | refine brF ?_)); conv => whnf)
  refine ⟨_, h, ?_⟩
  ((repeat ((conv => whnf); first | refine brT ?_ | refine brF ?_)); conv => whnf)
  exact fin rfl
theorem ordered1_spec (ps : List Per) (us : List Uni) (l : List Int) (p : Int) (i : Nat) (hi : i < ps.length) :
    FSpec env.P 118 [.int .i64 (i : Int), .ref (famLV ps us), .ref (.sl (l.map intLV)), .ref (.int .i64 p)] (.bool (grpQ ps l p i)) := by
  refine FSpec_of_code env_ok (fn := Tryz.f118) Tryz.func118 rfl Tryz.call118 _ _ ?_
  have hg : (ps.map Per.lv)[i]? = some ps[i].lv := by simp [hi]
  have hq : grpQ ps l p i = (hasI l ps[i].sex && (eqI ps[i].father p || eqI ps[i].mother p)) := by simp [grpQ, sexD, chQ, hi, chB]
  rw [hq]
  have hc := containsW_spec l ps[i].sex
  generalize ps[i] = x at hg hc
  obtain ⟨nm, sx, fa, mo, bo, di⟩ := x
  simp only at hc
  ((repeat ((conv => whnf); first | refine brT ?_ | refine brF ?_)); conv => whnf)
  refine ⟨i, _, rfl, hg, rfl, ?_⟩
  ((repeat ((conv => whnf); first | refine brT ?_ | refine brF ?_)); conv => whnf)
  refine ⟨_, hc, ?_⟩
  ((repeat ((conv => whnf); first | refine brT ?_ | refine brF ?_)); conv => whnf)
  (refine ⟨fun g1 => ?_, fun g1 => ?_⟩ <;> rw [g1])
  · ((repeat ((conv => whnf); first | refine brT ?_ | refine brF ?_)); conv => whnf)
    (refine ⟨fun g2 => ?_, fun g2 => ?_⟩ <;> rw [g2])
    · ((repeat ((conv => whnf); first | refine brT ?_ | refine brF ?_)); conv => whnf)
      refine fin ?_; simp [g1, g2]
    · ((repeat ((conv => whnf); first | refine brT ?_ | refine brF ?_)); conv => whnf)
      refine fin ?_; simp [g1, g2]
  · ((repeat ((conv => whnf); first | refine brT ?_ | refine brF ?_)); conv => whnf)
    refine fin ?_; simp [g1]
def rowG (l : List Int) : LV := .sl (l.map intLV)
theorem groups_spec (p : Int) : FSpec env.P 116 [.int .i64 p] (.own 64 1 ((sexG p).map rowG)) := by
  have hh : HSpec env.P 116 [.int .i64 p] [] (.hs 0 ((sexG p).map rowOw).length) [.tree 64 1 ((sexG p).map rowOw)] := by
    refine HSpec_of_code (E := env.x [] 0) env_ok.x (fn := Tryz.f116) Tryz.func116 rfl Tryz.call116 _ _ _ _ ?_
    unfold sexG
    ((repeat ((conv => whnf); first | refine brT ?_ | refine brF ?_)); conv => whnf)
    (refine ⟨fun g1 => ?_, fun g1 => ?_⟩ <;> rw [g1])
    · ((repeat ((conv => whnf); first | refine brT ?_ | refine brF ?_)); conv => whnf)
      refine ⟨rfl, ?_⟩
      ((repeat ((conv => whnf); first | refine brT ?_ | refine brF ?_)); conv => whnf)
      refine ⟨rfl, ?_⟩
      ((repeat ((conv => whnf); first | refine brT ?_ | refine brF ?_)); conv => whnf)
      exact ⟨[.hs 0 2], rfl, rfl, .inr ⟨[.old 2], ⟨rfl, rfl, trivial⟩, ⟨rfl, rfl, trivial⟩, rfl⟩⟩
    ((repeat ((conv => whnf); first | refine brT ?_ | refine brF ?_)); conv => whnf)
    (refine ⟨fun g2 => ?_, fun g2 => ?_⟩ <;> rw [g2])
    · ((repeat ((conv => whnf); first | refine brT ?_ | refine brF ?_)); conv => whnf)
      refine ⟨rfl, ?_⟩
      ((repeat ((conv => whnf); first | refine brT ?_ | refine brF ?_)); conv => whnf)
      refine ⟨rfl, ?_⟩
      ((repeat ((conv => whnf); first | refine brT ?_ | refine brF ?_)); conv => whnf)
      exact ⟨[.hs 0 2], rfl, rfl, .inr ⟨[.old 2], ⟨rfl, rfl, trivial⟩, ⟨rfl, rfl, trivial⟩, rfl⟩⟩
    ((repeat ((conv => whnf); first | refine brT ?_ | refine brF ?_)); conv => whnf)
    (refine ⟨fun g3 => ?_, fun g3 => ?_⟩ <;> rw [g3])
    · ((repeat ((conv => whnf); first | refine brT ?_ | refine brF ?_)); conv => whnf)
      refine ⟨rfl, ?_⟩
      ((repeat ((conv => whnf); first | refine brT ?_ | refine brF ?_)); conv => whnf)
      exact ⟨[.hs 0 1], rfl, rfl, .inr ⟨[.old 1], ⟨rfl, rfl, trivial⟩, ⟨rfl, rfl, trivial⟩, rfl⟩⟩
    ((repeat ((conv => whnf); first | refine brT ?_ | refine brF ?_)); conv => whnf)
    (refine ⟨fun g4 => ?_, fun g4 => ?_⟩ <;> rw [g4])
    · ((repeat ((conv => whnf); first | refine brT ?_ | refine brF ?_)); conv => whnf)
      refine ⟨rfl, ?_⟩
      ((repeat ((conv => whnf); first | refine brT ?_ | refine brF ?_)); conv => whnf)
      exact ⟨[.hs 0 1], rfl, rfl, .inr ⟨[.old 1], ⟨rfl, rfl, trivial⟩, ⟨rfl, rfl, trivial⟩, rfl⟩⟩
    ((repeat ((conv => whnf); first | refine brT ?_ | refine brF ?_)); conv => whnf)
    refine ⟨rfl, ?_⟩
    ((repeat ((conv => whnf); first | refine brT ?_ | refine brF ?_)); conv => whnf)
    exact ⟨[.hs 0 1], rfl, rfl, .inr ⟨[.old 1], ⟨rfl, rfl, trivial⟩, ⟨rfl, rfl, trivial⟩, rfl⟩⟩
  exact rows_f hh
theorem ordered_h (ps : List Per) (us : List Uni) (x : Cus) (p : Int) (hl : ps.length ≤ 40) :
    HSpec env.P 77 [famLV ps us, x.lv, .int .i64 p] [] (.hs 0 ((ordL ps x p).map natLV).length) [.arr 3 1 ((ordL ps x p).map natLV)] := by
  refine HSpec_of_code (E := env.x [117, 120] 0) env_ok.x (fn := Tryz.f77) Tryz.func77 rfl Tryz.call77 _ _ _ _ ?_
  have hG := groups_spec x.prefer
  have hGl : ((sexG x.prefer).map rowG).length = (sexG x.prefer).length := List.length_map ..
  have hG2 := sexG_len x.prefer
  have hT := ordTo_len ps x p
  rw [← ordTo_all]
  have hS := fun k h => ordTo_succ (k := k) ps x p h
  obtain ⟨pr, yo, re⟩ := x
  simp only at hG hGl hG2 hS
  ((repeat ((conv => whnf); first | refine brT ?_ | refine brF ?_)); conv => whnf)
  refine ⟨_, hG, ?_⟩
  ((repeat ((conv => whnf); first | refine brT ?_ | refine brF ?_)); conv => whnf)
  intro _
  rw [hGl]
  ((repeat ((conv => whnf); first | refine brT ?_ | refine brF ?_)); conv => whnf)
  refine loop_ruleR (α := Nat) [.old 0, .old 1, .old 2, .nil 3 1] (fun k => [(15, .int .i64 (k : Int)), (7, .hs 3 ((ordTo ps ⟨pr, yo, re⟩ p k).map natLV).length)])
    (fun k => [.box (famLV ps us), .box (.st [.int .i64 pr, .bool yo, .bool re]), .box (.int .i64 p), .arr 3 1 ((ordTo ps ⟨pr, yo, re⟩ p k).map natLV)]) (fun k => (sexG pr).length - k) (fun k => k ≤ (sexG pr).length) 0 (Nat.zero_le _) ?_ ?_
  · refine ⟨?_, ⟨rfl, rfl, rfl, rfl, rfl, rfl, rfl, rfl, trivial⟩, rfl⟩
    ((repeat ((conv => whnf); refine ⟨rfl, rfl, ?_⟩)); trivial)
  intro k hk
  generalize hK : kk _ = KK
  ((repeat ((conv => whnf); first | refine brT ?_ | refine brF ?_)); conv => whnf)
  (refine ⟨fun g1 => ?_, fun g1 => ?_⟩ <;> rw [g1])
  · have hlt : k < (sexG pr).length := by rw [ltI_t] at g1; omega
    have e := step_i hlt (by unfold Go.maxLen; omega)
    have hg : ((sexG pr).map rowG)[k]? = some (.sl ((sexG pr)[k].map intLV)) := by rw [List.getElem?_map, List.getElem?_eq_getElem hlt]; rfl
    have hs1 := hS k hlt
    have hle := ordG_len ps ⟨pr, yo, re⟩ p (sexG pr)[k]
    have hT1 := hT (k + 1)
    generalize (sexG pr)[k] = l at hg hs1 hle
    ((repeat ((conv => whnf); first | refine brT ?_ | refine brF ?_)); conv => whnf)
    refine ⟨k, _, rfl, hg, rfl, ?_⟩
    ((repeat ((conv => whnf); first | refine brT ?_ | refine brF ?_)); conv => whnf)
    have hEl := eldest3_h ps us 118 (famLV ps us) (.sl (l.map intLV)) (.int .i64 p) (grpQ ps l p) hl (fun i hi => ordered1_spec ps us l p i hi)
    refine ⟨[], _, _, _, _, hEl, rfl, rfl, rfl, ⟨rfl, flats_nats _, trivial⟩, ?_⟩
    have hQl : (eldL ps (grpQ ps l p) ps.length).length ≤ ps.length := eldL_len _ _ _
    have hO : ordG ps ⟨pr, yo, re⟩ p l = turnL yo (eldL ps (grpQ ps l p) ps.length) := rfl
    generalize eldL ps (grpQ ps l p) ps.length = Q at hQl hO
    ((repeat ((conv => whnf); first | refine brT ?_ | refine brF ?_)); conv => whnf)
    cases yo
    · ((repeat ((conv => whnf); first | refine brT ?_ | refine brF ?_)); conv => whnf)
      have e2 : (ordTo ps ⟨pr, false, re⟩ p k).map natLV ++ Q.map natLV = (ordTo ps ⟨pr, false, re⟩ p (k + 1)).map natLV := by rw [hs1, hO, List.map_append]; rfl
      have e3 : ((ordTo ps ⟨pr, false, re⟩ p (k + 1)).map natLV).length ≤ 80 := by rw [List.length_map]; omega
      refine ⟨rfl, ?_⟩
      ((repeat ((conv => whnf); first | refine brT ?_ | refine brF ?_)); conv => whnf)
      refine ⟨rfl, ?_, ?_, ?_⟩
      · rw [e2]; unfold Go.maxLen; omega
      · rw [e2]; show ((ordTo ps ⟨pr, false, re⟩ p (k + 1)).map natLV).length * 8 ≤ _; omega
      rw [e2]
      ((repeat ((conv => whnf); first | refine brT ?_ | refine brF ?_)); conv => whnf)
      subst hK
      refine round_endR [.old 0, .old 1, .old 2, .old 6] (k + 1) hlt (by omega) ⟨?_, ⟨rfl, rfl, rfl, rfl, rfl, rfl, rfl, rfl, trivial⟩, rfl⟩
      ((repeat ((conv => whnf); first | refine ⟨rfl, e, ?_⟩ | refine ⟨rfl, rfl, ?_⟩)); trivial)
    · ((repeat ((conv => whnf); first | refine brT ?_ | refine brF ?_)); conv => whnf)
      refine ⟨[5], _, _, _, _, reverse_h Q (by omega), rfl, rfl, rfl, trivial, ?_⟩
      ((repeat ((conv => whnf); first | refine brT ?_ | refine brF ?_)); conv => whnf)
      have e2 : (ordTo ps ⟨pr, true, re⟩ p k).map natLV ++ Q.reverse.map natLV = (ordTo ps ⟨pr, true, re⟩ p (k + 1)).map natLV := by rw [hs1, hO, List.map_append]; rfl
      have e3 : ((ordTo ps ⟨pr, true, re⟩ p (k + 1)).map natLV).length ≤ 80 := by rw [List.length_map]; omega
      refine ⟨by simp, ?_⟩
      ((repeat ((conv => whnf); first | refine brT ?_ | refine brF ?_)); conv => whnf)
      refine ⟨rfl, ?_, ?_, ?_⟩
      · rw [e2]; unfold Go.maxLen; omega
      · rw [e2]; show ((ordTo ps ⟨pr, true, re⟩ p (k + 1)).map natLV).length * 8 ≤ _; omega
      rw [e2]
      ((repeat ((conv => whnf); first | refine brT ?_ | refine brF ?_)); conv => whnf)
      subst hK
      refine round_endR [.old 0, .old 1, .old 2, .old 6] (k + 1) hlt (by omega) ⟨?_, ⟨rfl, rfl, rfl, rfl, rfl, rfl, rfl, rfl, trivial⟩, rfl⟩
      ((repeat ((conv => whnf); first | refine ⟨rfl, e, ?_⟩ | refine ⟨rfl, rfl, ?_⟩)); trivial)
  have h4 : k = (sexG pr).length := by rw [ltI_f] at g1; omega
  subst h4
  subst hK
  ((repeat ((conv => whnf); first | refine brT ?_ | refine brF ?_)); conv => whnf)
  exact ⟨[.hs 0 ((ordTo ps ⟨pr, yo, re⟩ p (sexG pr).length).map natLV).length], rfl, rfl, .inr ⟨[.old 3], ⟨rfl, rfl, trivial⟩, ⟨rfl, rfl, trivial⟩, rfl⟩⟩
end Go.Proofs.YtbiagkccgijdlaaGreat

