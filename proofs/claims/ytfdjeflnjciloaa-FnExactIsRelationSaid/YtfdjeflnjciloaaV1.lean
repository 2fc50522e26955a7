/- Contracts of functions of the program and of its model, told over readings. -/
import Derived.Test.YtfdjeflnjciloaaU7
namespace Go.Proofs.Ytfdjeflnjciloaa
open Go.Lg
set_option maxHeartbeats 800000
set_option maxRecDepth 10000
set_option linter.unusedVariables false
set_option linter.unusedSimpArgs false

/-- The family is valid and has the person. -/
def hasP (ps : List Per) (us : List Uni) (p : Int) : Bool := leI 0 p && (ltI p (ps.length : Int) && famOk ps us)
theorem l1Has_spec (ps : List Per) (us : List Uni) (p : Int) : FSpec env.P 105 [famLV ps us, .int .i64 p] (.bool (hasP ps us p)) := by
  refine FSpec_of_code env_ok (fn := Try.f105) Try.func105 rfl Try.call105 _ _ ?_
  ((repeat ((conv => whnf); first | refine brT ?_ | refine brF ?_)); conv => whnf)
  (refine ⟨fun h1 => ?_, fun h1 => ?_⟩ <;> rw [h1])
  · ((repeat ((conv => whnf); first | refine brT ?_ | refine brF ?_)); conv => whnf)
    intro hn
    ((repeat' (((repeat ((conv => whnf); first | refine brT ?_ | refine brF ?_)); conv => whnf); first | (refine And.intro ?_ ?_ <;> (intro h; rw [h]; revert h; intro _)) | (refine And.intro (a := drawB _ _ = true) (by kernel_rfl) ?_) | (refine Exists.intro _ (And.intro (isFamily_spec ps us) ?_)))); all_goals ((repeat ((conv => whnf); first | refine brT ?_ | refine brF ?_)); conv => whnf))
    all_goals (refine fin ?_; simp_all [hasP])
  · ((repeat ((conv => whnf); first | refine brT ?_ | refine brF ?_)); conv => whnf)
    refine fin ?_; simp [hasP, h1]
theorem hasPerson_spec (ps : List Per) (us : List Uni) (p : Int) : FSpec env.P 96 [famLV ps us, .int .i64 p] (.bool (hasP ps us p)) := by
  refine FSpec_of_code env_ok (fn := Try.f96) Try.func96 rfl Try.call96 _ _ ?_
  ((repeat ((conv => whnf); first | refine brT ?_ | refine brF ?_)); conv => whnf)
  (refine ⟨fun h1 => ?_, fun h1 => ?_⟩ <;> rw [h1])
  · ((repeat ((conv => whnf); first | refine brT ?_ | refine brF ?_)); conv => whnf)
    intro hn
    ((repeat' (((repeat ((conv => whnf); first | refine brT ?_ | refine brF ?_)); conv => whnf); first | (refine And.intro ?_ ?_ <;> (intro h; rw [h]; revert h; intro _)) | (refine And.intro (a := drawB _ _ = true) (by kernel_rfl) ?_) | (refine Exists.intro _ (And.intro (isFamily_impl ps us) ?_)))); all_goals ((repeat ((conv => whnf); first | refine brT ?_ | refine brF ?_)); conv => whnf))
    all_goals (refine fin ?_; simp_all [hasP])
  · ((repeat ((conv => whnf); first | refine brT ?_ | refine brF ?_)); conv => whnf)
    refine fin ?_; simp [hasP, h1]
theorem hasP_lt {ps : List Per} {us : List Uni} {p : Int} (h : hasP ps us p = true) : 0 ≤ p ∧ p.toNat < ps.length ∧ famOk ps us = true := by
  unfold hasP at h
  simp only [Bool.and_eq_true, leI_t, ltI_t] at h
  exact ⟨h.1, by omega, h.2.2⟩
theorem famOk_parts {ps : List Per} {us : List Uni} (h : famOk ps us = true) : ps.length ≤ 40 ∧ us.length ≤ 60 ∧ personsTo ps ps.length = true ∧ unionsTo ps us us.length = true ∧ shallow (depths ps) = true := by
  unfold famOk at h
  simpa only [Bool.and_eq_true, decide_eq_true_eq] using h

/-- FindPerson -/
def findO (ps : List Per) (us : List Uni) (n : ByteArray) : Option Nat := match famOk ps us with | true => findFrom n 0 ps | false => none
/-- IsElder -/
def elder (ps : List Per) (a b : Int) : Bool := match ps[a.toNat]?, ps[b.toNat]? with
  | some x, some y => ltI x.born y.born || (eqI x.born y.born && ltI a b)
  | _, _ => false
theorem l1Elder_spec (ps : List Per) (us : List Uni) (a b : Int) (a0 : 0 ≤ a) (al : a.toNat < ps.length) (b0 : 0 ≤ b) (bl : b.toNat < ps.length) :
    FSpec env.P 180 [famLV ps us, .int .i64 a, .int .i64 b] (.bool (elder ps a b)) := by
  refine FSpec_of_code env_ok (fn := Try.f180) Try.func180 rfl Try.call180 _ _ ?_
  have he : elder ps a b = (ltI ps[a.toNat].born ps[b.toNat].born || (eqI ps[a.toNat].born ps[b.toNat].born && ltI a b)) := by simp [elder, al, bl]
  ((repeat ((conv => whnf); first | refine brT ?_ | refine brF ?_)); conv => whnf)
  refine ⟨a.toNat, ps[a.toNat].lv, by omega, by simp [al], rfl, ?_⟩
  ((repeat ((conv => whnf); first | refine brT ?_ | refine brF ?_)); conv => whnf)
  refine ⟨b.toNat, ps[b.toNat].lv, by omega, by simp [bl], rfl, ?_⟩
  ((repeat' (((repeat ((conv => whnf); first | refine brT ?_ | refine brF ?_)); conv => whnf); (refine And.intro ?_ ?_ <;> (intro h; rw [h]; revert h; intro _)))); all_goals ((repeat ((conv => whnf); first | refine brT ?_ | refine brF ?_)); conv => whnf))
  all_goals (refine fin ?_; simp [*])
def cmpI (a b : Int) : Int := match ltI a b with | true => -1 | false => match ltI b a with | true => 1 | false => 0
theorem isNaN_spec (a : Int) : FSpec env.P 196 [.int .i64 a] (.bool false) := by
  refine FSpec_of_code env_ok (fn := Try.f196) Try.func196 rfl Try.call196 _ _ ?_
  ((repeat ((conv => whnf); first | refine brT ?_ | refine brF ?_)); conv => whnf)
  exact fin (by simp [notB, eqI_refl])
theorem compare_spec (a b : Int) : FSpec env.P 168 [.int .i64 a, .int .i64 b] (.int .i64 (cmpI a b)) := by
  refine FSpec_of_code env_ok (fn := Try.f168) Try.func168 rfl Try.call168 _ _ ?_
  ((repeat' (((repeat ((conv => whnf); first | refine brT ?_ | refine brF ?_)); conv => whnf); first | (refine And.intro ?_ ?_ <;> (intro h; rw [h]; revert h; intro _)) | (refine And.intro (a := drawB _ _ = true) (by kernel_rfl) ?_) | (refine Exists.intro _ (And.intro (isNaN_spec _) ?_)))); all_goals ((repeat ((conv => whnf); first | refine brT ?_ | refine brF ?_)); conv => whnf))
  all_goals
    refine ⟨rfl, ?_, List.nodup_nil⟩
    simp [cmpI, *]
def orI (a b : Int) : Int := match eqI a 0 with | true => b | false => a
theorem or_spec (a b : Int) : FSpec env.P 167 [.sl [.int .i64 a, .int .i64 b]] (.int .i64 (orI a b)) := by
  refine FSpec_of_code env_ok (fn := Try.f167) Try.func167 rfl Try.call167 _ _ ?_
  ((repeat ((conv => whnf); first | refine brT ?_ | refine brF ?_)); conv => whnf)
  intro _
  ((repeat ((conv => whnf); first | refine brT ?_ | refine brF ?_)); conv => whnf)
  refine loop_rule (α := Nat) (fun k => [(8, .int .i64 (k : Int))]) (fun k => []) (fun k => 2 - k) (fun k => k ≤ 2 ∧ (1 ≤ k → a = 0) ∧ (2 ≤ k → b = 0)) 0 ⟨by omega, by omega, by omega⟩ ?_ ?_
  · refine ⟨?_, trivial, rfl, rfl⟩
    ((repeat ((conv => whnf); refine ⟨rfl, ?_⟩)); trivial)
  rintro k ⟨hk, ha, hb⟩
  ((repeat ((conv => whnf); first | refine brT ?_ | refine brF ?_)); conv => whnf)
  (refine ⟨fun h1 => ?_, fun h1 => ?_⟩ <;> rw [h1])
  · have hlt : k < 2 := by rw [ltI_t] at h1; simp at h1; omega
    have e : LV.int .i64 (IntKind.i64.wrap ((k : Int) + 1)) = LV.int .i64 ((k + 1 : Nat) : Int) := step_i hlt (by decide)
    ((repeat ((conv => whnf); first | refine brT ?_ | refine brF ?_)); conv => whnf)
    refine ⟨k, .int .i64 ([a, b][k]'hlt), rfl, ?_, rfl, ?_⟩
    · match k, hlt with
      | 0, _ => rfl
      | 1, _ => rfl
    ((repeat ((conv => whnf); first | refine brT ?_ | refine brF ?_)); conv => whnf)
    (refine ⟨fun h2 => ?_, fun h2 => ?_⟩ <;> rw [h2])
    · ((repeat ((conv => whnf); first | refine brT ?_ | refine brF ?_)); conv => whnf)
      refine ⟨rfl, ?_, List.nodup_nil⟩
      rw [notB_t] at h2
      match k, hlt, h2 with
      | 0, _, h2 => simp at h2; simp [orI, h2]
      | 1, _, h2 => have := ha (by omega); subst this; simp [orI, eqI_refl]
    · rw [notB_f, eqI_t] at h2
      ((repeat ((conv => whnf); first | refine brT ?_ | refine brF ?_)); conv => whnf)
      refine round_end (k + 1) ⟨hlt, fun _ => ?_, fun h => ?_⟩ (by omega) ⟨?_, trivial, rfl, rfl⟩
      · match k, hlt, h2 with
        | 0, _, h2 => simpa using h2
        | 1, _, h2 => exact ha (by omega)
      · match k, hlt, h2, h with
        | 1, _, h2, _ => simpa using h2
      · ((repeat ((conv => whnf); first | refine ⟨e, ?_⟩ | refine ⟨rfl, ?_⟩)); trivial)
  · have h3 : k = 2 := by rw [ltI_f] at h1; simp at h1; omega
    subst h3
    have := ha (by omega)
    have := hb (by omega)
    subst a; subst b
    ((repeat ((conv => whnf); first | refine brT ?_ | refine brF ?_)); conv => whnf)
    exact ⟨rfl, by simp [orI, eqI_refl], List.nodup_nil⟩
def ageI (ps : List Per) (a b : Int) : Int := match ps[a.toNat]?, ps[b.toNat]? with
  | some x, some y => orI (cmpI x.born y.born) (cmpI a b)
  | _, _ => 0
theorem compareAge_spec (ps : List Per) (us : List Uni) (a b : Int) (a0 : 0 ≤ a) (al : a.toNat < ps.length) (b0 : 0 ≤ b) (bl : b.toNat < ps.length) :
    FSpec env.P 103 [famLV ps us, .int .i64 a, .int .i64 b] (.int .i64 (ageI ps a b)) := by
  refine FSpec_of_code env_ok (fn := Try.f103) Try.func103 rfl Try.call103 _ _ ?_
  have he : ageI ps a b = orI (cmpI ps[a.toNat].born ps[b.toNat].born) (cmpI a b) := by simp [ageI, al, bl]
  ((repeat ((conv => whnf); first | refine brT ?_ | refine brF ?_)); conv => whnf)
  refine ⟨by kernel_rfl, ?_⟩
  ((repeat ((conv => whnf); first | refine brT ?_ | refine brF ?_)); conv => whnf)
  refine ⟨a.toNat, ps[a.toNat].lv, by omega, by simp [al], rfl, ?_⟩
  ((repeat ((conv => whnf); first | refine brT ?_ | refine brF ?_)); conv => whnf)
  refine ⟨b.toNat, ps[b.toNat].lv, by omega, by simp [bl], rfl, ?_⟩
  ((repeat ((conv => whnf); first | refine brT ?_ | refine brF ?_)); conv => whnf)
  refine ⟨_, compare_spec _ _, ?_⟩
  ((repeat ((conv => whnf); first | refine brT ?_ | refine brF ?_)); conv => whnf)
  refine ⟨_, compare_spec _ _, ?_⟩
  ((repeat ((conv => whnf); first | refine brT ?_ | refine brF ?_)); conv => whnf)
  refine ⟨rfl, ?_⟩
  ((repeat ((conv => whnf); first | refine brT ?_ | refine brF ?_)); conv => whnf)
  refine ⟨_, or_spec _ _, ?_⟩
  ((repeat ((conv => whnf); first | refine brT ?_ | refine brF ?_)); conv => whnf)
  exact ⟨rfl, he.symm, List.nodup_nil⟩
theorem age_elder (ps : List Per) (a b : Int) : ltI (ageI ps a b) 0 = elder ps a b := by
  unfold ageI elder
  split
  · rename_i x y _ _
    rw [Bool.eq_iff_iff]
    simp only [ltI_t, Bool.or_eq_true, Bool.and_eq_true, eqI_t]
    unfold orI cmpI
    grind [ltI_t, ltI_f, eqI_t, eqI_f]
  · rw [ltI_f]; omega
def isElder (ps : List Per) (us : List Uni) (a b : Int) : Bool := (hasP ps us a && hasP ps us b) && elder ps a b
theorem isElder_impl (ps : List Per) (us : List Uni) (a b : Int) : FSpec env.P 31 [famLV ps us, .int .i64 a, .int .i64 b] (.bool (isElder ps us a b)) := by
  refine FSpec_of_code env_ok (fn := Try.f31) Try.func31 rfl Try.call31 _ _ ?_
  ((repeat ((conv => whnf); first | refine brT ?_ | refine brF ?_)); conv => whnf)
  refine ⟨_, hasPerson_spec ps us a, ?_⟩
  ((repeat ((conv => whnf); first | refine brT ?_ | refine brF ?_)); conv => whnf)
  (refine ⟨fun h1 => ?_, fun h1 => ?_⟩ <;> rw [h1])
  · obtain ⟨a0, al, _⟩ := hasP_lt h1
    ((repeat ((conv => whnf); first | refine brT ?_ | refine brF ?_)); conv => whnf)
    refine ⟨_, hasPerson_spec ps us b, ?_⟩
    ((repeat ((conv => whnf); first | refine brT ?_ | refine brF ?_)); conv => whnf)
    (refine ⟨fun h2 => ?_, fun h2 => ?_⟩ <;> rw [h2])
    · obtain ⟨b0, bl, _⟩ := hasP_lt h2
      ((repeat ((conv => whnf); first | refine brT ?_ | refine brF ?_)); conv => whnf)
      refine ⟨_, compareAge_spec ps us a b a0 al b0 bl, ?_⟩
      ((repeat ((conv => whnf); first | refine brT ?_ | refine brF ?_)); conv => whnf)
      refine fin ?_; simp [isElder, h1, h2, age_elder]
    · ((repeat ((conv => whnf); first | refine brT ?_ | refine brF ?_)); conv => whnf); refine fin ?_; simp [isElder, h2]
  · ((repeat ((conv => whnf); first | refine brT ?_ | refine brF ?_)); conv => whnf); refine fin ?_; simp [isElder, h1]

/-- IsAlive -/
def aliveIn (p : Per) (y : Int) : Bool := leI p.born y && (eqI p.died (-1) || ltI y p.died)
def alive (ps : List Per) (us : List Uni) (p y : Int) : Bool := hasP ps us p && match ps[p.toNat]? with | some x => aliveIn x y | none => false
/-- DepthOf -/
def depthOf (ps : List Per) (us : List Uni) (p : Int) : Int := match hasP ps us p with | true => (depths ps).getD p.toNat 0 | false => 0
theorem depths_len (ps : List Per) : (depths ps).length = ps.length := depTo_len ps _
end Go.Proofs.Ytfdjeflnjciloaa