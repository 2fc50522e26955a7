/- Contracts of functions of the program and of its model, told over readings. -/
import Derived.Test.YtpfipmjmblgjfaaHWGB
import Derived.Test.YtpfipmjmblgjfaaHLgWS
namespace Go.Proofs.Ytpfipmjmblgjfaa
open Go.Lg
set_option maxHeartbeats 1600000
set_option maxRecDepth 10000
set_option linter.unusedVariables false
set_option linter.unusedSimpArgs false

theorem eqI_d (a b : Int) : eqI a b = decide (a = b) := by rw [Bool.eq_iff_iff, eqI_t]; simp
theorem ltI_d (a b : Int) : ltI a b = decide (a < b) := by rw [Bool.eq_iff_iff, ltI_t]; simp
theorem leI_d (a b : Int) : leI a b = decide (a ≤ b) := by rw [Bool.eq_iff_iff, leI_t]; simp
theorem notB_d (b : Bool) : notB b = !b := by rw [Bool.eq_iff_iff, notB_t]; simp

/-- A step of a kind and an age may be made from a person of a sex. -/
def stepB (k g x : Int) : Bool :=
  ((eqI k 1 || eqI k 2 || eqI k 5 || eqI k 6) && eqI g 0) || ((eqI k 3 || eqI k 4) && (eqI g 0 || eqI g 1 || eqI g 2)) ||
  (eqI k 7 && (eqI g 0 && notB (eqI x 1))) || (eqI k 8 && (eqI g 0 && notB (eqI x 2)))
theorem isStepFrom_spec (x : Int) (s : Pr) : FSpec env.P 166 [.int .i64 x, s.lv] (.bool (stepB s.a s.b x)) := by
  refine FSpec_of_code env_ok (fn := Try.f166) Try.func166 rfl Try.call166 _ _ ?_
  ((repeat' (((repeat ((conv => whnf); first | refine brT ?_ | refine brF ?_)); conv => whnf); (refine And.intro ?_ ?_ <;> (intro h; rw [h]; revert h; intro _)))); all_goals ((repeat ((conv => whnf); first | refine brT ?_ | refine brF ?_)); conv => whnf))
  all_goals (refine fin ?_; unfold stepB; simp only [eqI_d, notB_d] at *; simp only [decide_eq_true_eq, decide_eq_false_iff_not] at *; grind)
theorem l3Step_spec (s : Pr) (x : Int) : FSpec env.P 161 [s.lv, .int .i64 x] (.bool (stepB s.a s.b x)) := by
  refine FSpec_of_code env_ok (fn := Try.f161) Try.func161 rfl Try.call161 _ _ ?_
  ((repeat' (((repeat ((conv => whnf); first | refine brT ?_ | refine brF ?_)); conv => whnf); first | (refine And.intro ?_ ?_ <;> (intro h; rw [h]; revert h; intro _)) | (refine Exists.intro true (And.intro (a := drawB _ _ = true) (by kernel_rfl) ?_)) | (refine Exists.intro _ (And.intro (l1In_spec _ _ _) ?_)))); all_goals ((repeat ((conv => whnf); first | refine brT ?_ | refine brF ?_)); conv => whnf))
  all_goals (refine fin ?_; unfold stepB; simp only [eqI_d, notB_d, leI_d] at *; grind)
/-- The sex of whom a step of this kind leads to. -/
def sxOf (k : Int) : Int := match eqI (k.tmod 2) 1 with | true => 1 | false => 2
theorem l3Sex_spec (k : Int) : FSpec env.P 162 [.int .i64 k] (.int .i64 (sxOf k)) := by
  refine FSpec_of_code env_ok (fn := Try.f162) Try.func162 rfl Try.call162 _ _ ?_
  ((repeat ((conv => whnf); first | refine brT ?_ | refine brF ?_)); conv => whnf)
  refine ⟨by decide, ?_⟩
  ((repeat ((conv => whnf); first | refine brT ?_ | refine brF ?_)); conv => whnf)
  (refine ⟨fun h => ?_, fun h => ?_⟩ <;> rw [h])
  · ((repeat ((conv => whnf); first | refine brT ?_ | refine brF ?_)); conv => whnf); exact ⟨rfl, by unfold sxOf; rw [h], List.nodup_nil⟩
  · ((repeat ((conv => whnf); first | refine brT ?_ | refine brF ?_)); conv => whnf); exact ⟨rfl, by unfold sxOf; rw [h], List.nodup_nil⟩
theorem sexOfStep_spec (s : Pr) : FSpec env.P 167 [s.lv] (.int .i64 (sxOf s.a)) := by
  refine FSpec_of_code env_ok (fn := Try.f167) Try.func167 rfl Try.call167 _ _ ?_
  ((repeat ((conv => whnf); first | refine brT ?_ | refine brF ?_)); conv => whnf)
  refine ⟨by decide, ?_⟩
  ((repeat ((conv => whnf); first | refine brT ?_ | refine brF ?_)); conv => whnf)
  (refine ⟨fun h => ?_, fun h => ?_⟩ <;> rw [h])
  · ((repeat ((conv => whnf); first | refine brT ?_ | refine brF ?_)); conv => whnf); exact ⟨rfl, by unfold sxOf; rw [h], List.nodup_nil⟩
  · ((repeat ((conv => whnf); first | refine brT ?_ | refine brF ?_)); conv => whnf); exact ⟨rfl, by unfold sxOf; rw [h], List.nodup_nil⟩
theorem isSex_spec (x : Int) : FSpec env.P 165 [.int .i64 x] (.bool (eqI x 1 || eqI x 2)) := by
  refine FSpec_of_code env_ok (fn := Try.f165) Try.func165 rfl Try.call165 _ _ ?_
  ((repeat' (((repeat ((conv => whnf); first | refine brT ?_ | refine brF ?_)); conv => whnf); (refine And.intro ?_ ?_ <;> (intro h; rw [h]; revert h; intro _)))); all_goals ((repeat ((conv => whnf); first | refine brT ?_ | refine brF ?_)); conv => whnf))
  all_goals (refine fin ?_; simp_all)

/-- The sex from whom step i is made. -/
def sexAt (x : Int) (ss : List Pr) : Nat → Int
  | 0 => x
  | i + 1 => match ss[i]? with | some s => sxOf s.a | none => x
def sexTo (x : Int) (ss : List Pr) (k : Nat) : List Int := (List.range k).map (sexAt x ss)
theorem sexTo_succ (x : Int) (ss : List Pr) (k : Nat) : sexTo x ss (k + 1) = sexTo x ss k ++ [sexAt x ss k] := by simp [sexTo, List.range_succ]
theorem sexTo_len (x : Int) (ss : List Pr) (k : Nat) : (sexTo x ss k).length = k := by simp [sexTo]
theorem sexTo_get {x : Int} {ss : List Pr} {k i : Nat} (h : i < k) : (sexTo x ss k)[i]? = some (sexAt x ss i) := by simp [sexTo, h]
theorem sexAt_succ {x : Int} {ss : List Pr} {k : Nat} (h : k < ss.length) : sexAt x ss (k + 1) = sxOf ss[k].a := by simp [sexAt, h]

theorem sexesFrom_h (x : Int) (ss : List Pr) (h8 : ss.length ≤ 8) : HSpec env.P 116 [.int .i64 x, .sl (ss.map Pr.lv)] [] (.hs 0 ((sexTo x ss ss.length).map intLV).length) [.arr 3 1 ((sexTo x ss ss.length).map intLV)] := by
  refine HSpec_of_code (E := env.x [] 0) env_ok.x (fn := Try.f116) Try.func116 rfl Try.call116 _ _ _ _ ?_
  ((repeat ((conv => whnf); first | refine brT ?_ | refine brF ?_)); conv => whnf)
  intro hp
  have hp' : ss.length ≤ Go.maxLen := by simpa using hp
  ((repeat ((conv => whnf); first | refine brT ?_ | refine brF ?_)); conv => whnf)
  refine loop_ruleR (α := Nat) [.nil 3 1] (fun k => [(12, .int .i64 (k : Int)), (6, .int .i64 (sexAt x ss k)), (5, .hs 0 ((sexTo x ss k).map intLV).length)]) (fun k => [.arr 3 1 ((sexTo x ss k).map intLV)])
    (fun k => ss.length - k) (fun k => k ≤ ss.length) 0 (Nat.zero_le _) ?_ ?_
  · refine ⟨?_, ⟨rfl, rfl, trivial⟩, rfl⟩
    ((repeat ((conv => whnf); refine ⟨rfl, rfl, ?_⟩)); trivial)
  intro k hk
  ((repeat ((conv => whnf); first | refine brT ?_ | refine brF ?_)); conv => whnf)
  (refine ⟨fun h1 => ?_, fun h1 => ?_⟩ <;> rw [h1])
  · have hlt : k < ss.length := by rw [ltI_t] at h1; simp at h1; omega
    have e : LV.int .i64 (IntKind.i64.wrap ((k : Int) + 1)) = LV.int .i64 ((k + 1 : Nat) : Int) := step_i hlt hp'
    have e2 : (sexTo x ss k).map intLV ++ [LV.int .i64 (sexAt x ss k)] = (sexTo x ss (k + 1)).map intLV := by rw [sexTo_succ, List.map_append]; rfl
    have e3 : LV.hs 0 ((sexTo x ss k).map intLV ++ [LV.int .i64 (sexAt x ss k)]).length = LV.hs 0 ((sexTo x ss (k + 1)).map intLV).length := by rw [e2]
    have e4 : LV.int .i64 (sxOf ss[k].a) = LV.int .i64 (sexAt x ss (k + 1)) := by rw [sexAt_succ hlt]
    ((repeat ((conv => whnf); first | refine brT ?_ | refine brF ?_)); conv => whnf)
    refine ⟨k, ss[k].lv, rfl, by simp [hlt], rfl, ?_⟩
    ((repeat ((conv => whnf); first | refine brT ?_ | refine brF ?_)); conv => whnf)
    refine ⟨rfl, rfl, ?_, ?_, ?_⟩
    · rw [e2]; simp [sexTo_len]; omega
    · rw [e2]; simp [sexTo_len]; omega
    ((repeat ((conv => whnf); first | refine brT ?_ | refine brF ?_)); conv => whnf)
    refine ⟨_, sexOfStep_spec ss[k], ?_⟩
    ((repeat ((conv => whnf); first | refine brT ?_ | refine brF ?_)); conv => whnf)
    refine round_endR [.old 3] (k + 1) hlt (by omega) ⟨?_, ⟨rfl, congrArg (Blk.arr 3 1) e2, trivial⟩, rfl⟩
    repeat ((conv => whnf); first | refine ⟨rfl, e, ?_⟩ | refine ⟨rfl, e3, ?_⟩ | refine ⟨rfl, e4, ?_⟩ | refine ⟨rfl, rfl, ?_⟩)
    trivial
  · have h3 : k = ss.length := by rw [ltI_f] at h1; simp at h1; omega
    subst h3
    ((repeat ((conv => whnf); first | refine brT ?_ | refine brF ?_)); conv => whnf)
    exact ⟨[.hs 0 ((sexTo x ss ss.length).map intLV).length], rfl, rfl, .inl ⟨⟨rfl, trivial⟩, ⟨rfl, trivial⟩, rfl, rfl⟩⟩

theorem sexesFrom_f (x : Int) (ss : List Pr) (h8 : ss.length ≤ 8) : FSpec env.P 116 [.int .i64 x, .sl (ss.map Pr.lv)] (.own 3 1 ((sexTo x ss ss.length).map intLV)) :=
  FSpec_of_HSpec (sexesFrom_h x ss h8) (by simp only [exW]; exact ⟨rfl, rfl, rfl, rfl, by simp⟩)

/-- A type's steps may be made one after the other. -/
def stepsTo (x : Int) (ss : List Pr) (k : Nat) : Bool := (List.range k).all fun i => match ss[i]? with | some s => stepB s.a s.b (sexAt x ss i) | none => true
theorem stepsTo_succ {x : Int} {ss : List Pr} {k : Nat} (h : stepsTo x ss k = true) (hk : k < ss.length) (hs : stepB ss[k].a ss[k].b (sexAt x ss k) = true) : stepsTo x ss (k + 1) = true := by
  unfold stepsTo at h ⊢
  rw [List.range_succ, List.all_append, h]
  simp [hk, hs]
theorem stepsTo_no {x : Int} {ss : List Pr} {k n : Nat} (hk : k < ss.length) (hn : k < n) (hs : stepB ss[k].a ss[k].b (sexAt x ss k) = false) : stepsTo x ss n = false := by
  unfold stepsTo
  rw [List.all_eq_false]
  exact ⟨k, by simpa using hn, by simp [hk, hs]⟩
def typB (e : Int) (ss : List Pr) : Bool := (leI 0 e && leI e 2) && (leI (ss.length : Int) 8 && stepsTo e ss ss.length)
theorem typB_sex (e : Int) : (leI 0 e && leI e 2) = (eqI e 1 || eqI e 2 || eqI e 0) := by simp only [leI_d, eqI_d]; grind
theorem typB_e {e : Int} {ss : List Pr} (h : (leI 0 e && leI e 2) = false) : typB e ss = false := by unfold typB; rw [h]; rfl
theorem typB_l {e : Int} {ss : List Pr} (h : ltI 8 (ss.length : Int) = true) : typB e ss = false := by
  unfold typB; rw [show leI (ss.length : Int) 8 = false by rw [leI_f]; rw [ltI_t] at h; exact h]; simp
theorem typB_s {e : Int} {ss : List Pr} (h : stepsTo e ss ss.length = false) : typB e ss = false := by unfold typB; rw [h]; simp
theorem typB_y {e : Int} {ss : List Pr} (h : (leI 0 e && leI e 2) = true) (h1 : ltI 8 (ss.length : Int) = false) (h2 : stepsTo e ss ss.length = true) : typB e ss = true := by
  unfold typB; rw [h, h2, show leI (ss.length : Int) 8 = true by rw [leI_t]; rw [ltI_f] at h1; exact h1]; rfl
theorem isType_spec (e : Int) (ss : List Pr) : FSpec env.P 109 [typLV e ss] (.bool (typB e ss)) := by
  refine FSpec_of_code env_ok (fn := Try.f109) Try.func109 rfl Try.call109 _ _ ?_
  ((repeat ((conv => whnf); first | refine brT ?_ | refine brF ?_)); conv => whnf)
  refine ⟨_, l1In_spec _ _ _, ?_⟩
  ((repeat ((conv => whnf); first | refine brT ?_ | refine brF ?_)); conv => whnf)
  (refine ⟨fun h => ?_, fun h => ?_⟩ <;> rw [h])
  · rw [notB_t] at h
    ((repeat ((conv => whnf); first | refine brT ?_ | refine brF ?_)); conv => whnf)
    exact fin (typB_e h).symm
  rw [notB_f] at h
  ((repeat ((conv => whnf); first | refine brT ?_ | refine brF ?_)); conv => whnf)
  intro hp
  have hp' : ss.length ≤ Go.maxLen := by simpa using hp
  rw [List.length_map]
  ((repeat ((conv => whnf); first | refine brT ?_ | refine brF ?_)); conv => whnf)
  (refine ⟨fun h1 => ?_, fun h1 => ?_⟩ <;> rw [h1])
  · ((repeat ((conv => whnf); first | refine brT ?_ | refine brF ?_)); conv => whnf)
    exact fin (typB_l h1).symm
  ((repeat ((conv => whnf); first | refine brT ?_ | refine brF ?_)); conv => whnf)
  intro _
  rw [List.length_map]
  ((repeat ((conv => whnf); first | refine brT ?_ | refine brF ?_)); conv => whnf)
  refine loop_rule (α := Nat) (fun k => [(21, .int .i64 (k : Int)), (3, .int .i64 (sexAt e ss k))]) (fun k => [.box (typLV e ss)]) (fun k => ss.length - k) (fun k => k ≤ ss.length ∧ stepsTo e ss k = true) 0 ⟨Nat.zero_le _, rfl⟩ ?_ ?_
  · refine ⟨?_, ⟨rfl, trivial⟩, rfl, rfl⟩
    ((repeat ((conv => whnf); refine ⟨rfl, ?_⟩)); trivial)
  rintro k ⟨hk, hs⟩
  ((repeat ((conv => whnf); first | refine brT ?_ | refine brF ?_)); conv => whnf)
  (refine ⟨fun g => ?_, fun g => ?_⟩ <;> rw [g])
  · have hlt : k < ss.length := by rw [ltI_t] at g; omega
    have e1 : LV.int .i64 (IntKind.i64.wrap ((k : Int) + 1)) = LV.int .i64 ((k + 1 : Nat) : Int) := step_i hlt hp'
    have e4 : LV.int .i64 (sxOf ss[k].a) = LV.int .i64 (sexAt e ss (k + 1)) := by rw [sexAt_succ hlt]
    ((repeat ((conv => whnf); first | refine brT ?_ | refine brF ?_)); conv => whnf)
    refine ⟨k, ss[k].lv, rfl, by simp [hlt], rfl, ?_⟩
    ((repeat ((conv => whnf); first | refine brT ?_ | refine brF ?_)); conv => whnf)
    refine ⟨_, l3Step_spec ss[k] _, ?_⟩
    ((repeat ((conv => whnf); first | refine brT ?_ | refine brF ?_)); conv => whnf)
    (refine ⟨fun g2 => ?_, fun g2 => ?_⟩ <;> rw [g2])
    · rw [notB_t] at g2
      ((repeat ((conv => whnf); first | refine brT ?_ | refine brF ?_)); conv => whnf)
      exact fin (typB_s (stepsTo_no hlt hlt g2)).symm
    rw [notB_f] at g2
    ((repeat ((conv => whnf); first | refine brT ?_ | refine brF ?_)); conv => whnf)
    refine ⟨_, l3Sex_spec _, ?_⟩
    ((repeat ((conv => whnf); first | refine brT ?_ | refine brF ?_)); conv => whnf)
    refine round_end (k + 1) ⟨hlt, stepsTo_succ hs hlt g2⟩ (by show ss.length - (k + 1) < ss.length - k; omega) ⟨?_, ⟨rfl, trivial⟩, rfl, rfl⟩
    repeat ((conv => whnf); first | refine ⟨e1, ?_⟩ | refine ⟨e4, ?_⟩ | refine ⟨rfl, ?_⟩)
    trivial
  · have h3 : k = ss.length := by rw [ltI_f] at g; omega
    subst h3
    ((repeat ((conv => whnf); first | refine brT ?_ | refine brF ?_)); conv => whnf)
    exact fin (typB_y h h1 hs).symm
theorem isType_impl (e : Int) (ss : List Pr) : FSpec env.P 114 [typLV e ss] (.bool (typB e ss)) := by
  refine FSpec_of_code env_ok (fn := Try.f114) Try.func114 rfl Try.call114 _ _ ?_
  ((repeat ((conv => whnf); first | refine brT ?_ | refine brF ?_)); conv => whnf)
  refine ⟨_, isSex_spec e, ?_⟩
  ((repeat ((conv => whnf); first | refine brT ?_ | refine brF ?_)); conv => whnf)
  (refine ⟨fun h => ?_, fun h => ?_⟩ <;> rw [h])
  rotate_left
  · rw [notB_f] at h
    have hE : (leI 0 e && leI e 2) = true := by rw [typB_sex, h]; rfl
    clear h
    ((repeat ((conv => whnf); first | refine brT ?_ | refine brF ?_)); conv => whnf)
    intro hp
    have hp' : ss.length ≤ Go.maxLen := by simpa using hp
    rw [List.length_map]
    ((repeat ((conv => whnf); first | refine brT ?_ | refine brF ?_)); conv => whnf)
    (refine ⟨fun h1 => ?_, fun h1 => ?_⟩ <;> rw [h1])
    · ((repeat ((conv => whnf); first | refine brT ?_ | refine brF ?_)); conv => whnf)
      exact fin (typB_l h1).symm
    have h8 : ss.length ≤ 8 := by rw [ltI_f] at h1; omega
    ((repeat ((conv => whnf); first | refine brT ?_ | refine brF ?_)); conv => whnf)
    refine ⟨_, sexesFrom_f e ss h8, ?_⟩
    ((repeat ((conv => whnf); first | refine brT ?_ | refine brF ?_)); conv => whnf)
    intro _
    rw [List.length_map, sexTo_len]
    ((repeat ((conv => whnf); first | refine brT ?_ | refine brF ?_)); conv => whnf)
    refine loop_rule (α := Nat) (fun k => [(26, .int .i64 (k : Int))]) (fun k => [.box (typLV e ss)]) (fun k => ss.length - k) (fun k => k ≤ ss.length ∧ stepsTo e ss k = true) 0 ⟨Nat.zero_le _, rfl⟩ ?_ ?_
    · refine ⟨?_, ⟨rfl, trivial⟩, rfl, rfl⟩
      ((repeat ((conv => whnf); refine ⟨rfl, ?_⟩)); trivial)
    rintro k ⟨hk, hs⟩
    ((repeat ((conv => whnf); first | refine brT ?_ | refine brF ?_)); conv => whnf)
    (refine ⟨fun g => ?_, fun g => ?_⟩ <;> rw [g])
    · have hlt : k < ss.length := by rw [ltI_t] at g; omega
      have e1 : LV.int .i64 (IntKind.i64.wrap ((k : Int) + 1)) = LV.int .i64 ((k + 1 : Nat) : Int) := step_i hlt hp'
      ((repeat ((conv => whnf); first | refine brT ?_ | refine brF ?_)); conv => whnf)
      refine ⟨k, intLV (sexAt e ss k), rfl, by rw [List.getElem?_map, sexTo_get hlt]; rfl, rfl, ?_⟩
      ((repeat ((conv => whnf); first | refine brT ?_ | refine brF ?_)); conv => whnf)
      refine ⟨k, ss[k].lv, rfl, by simp [hlt], rfl, ?_⟩
      ((repeat ((conv => whnf); first | refine brT ?_ | refine brF ?_)); conv => whnf)
      refine ⟨_, isStepFrom_spec _ ss[k], ?_⟩
      ((repeat ((conv => whnf); first | refine brT ?_ | refine brF ?_)); conv => whnf)
      (refine ⟨fun g2 => ?_, fun g2 => ?_⟩ <;> rw [g2])
      · rw [notB_t] at g2
        ((repeat ((conv => whnf); first | refine brT ?_ | refine brF ?_)); conv => whnf)
        exact fin (typB_s (stepsTo_no hlt hlt g2)).symm
      rw [notB_f] at g2
      ((repeat ((conv => whnf); first | refine brT ?_ | refine brF ?_)); conv => whnf)
      refine round_end (k + 1) ⟨hlt, stepsTo_succ hs hlt g2⟩ (by show ss.length - (k + 1) < ss.length - k; omega) ⟨?_, ⟨rfl, trivial⟩, rfl, rfl⟩
      ((repeat ((conv => whnf); first | refine ⟨e1, ?_⟩ | refine ⟨rfl, ?_⟩)); trivial)
    · have h3 : k = ss.length := by rw [ltI_f] at g; omega
      subst h3
      ((repeat ((conv => whnf); first | refine brT ?_ | refine brF ?_)); conv => whnf)
      exact fin (typB_y hE h1 hs).symm
  · rw [notB_t] at h
    ((repeat ((conv => whnf); first | refine brT ?_ | refine brF ?_)); conv => whnf)
    (refine ⟨fun h0 => ?_, fun h0 => ?_⟩ <;> rw [h0])
    · rw [notB_t] at h0
      have hE : (leI 0 e && leI e 2) = false := by rw [typB_sex, h, h0]; rfl
      ((repeat ((conv => whnf); first | refine brT ?_ | refine brF ?_)); conv => whnf)
      exact fin (typB_e hE).symm
    rw [notB_f] at h0
    have hE : (leI 0 e && leI e 2) = true := by rw [typB_sex, h, h0]; rfl
    clear h h0
    ((repeat ((conv => whnf); first | refine brT ?_ | refine brF ?_)); conv => whnf)
    intro hp
    have hp' : ss.length ≤ Go.maxLen := by simpa using hp
    rw [List.length_map]
    ((repeat ((conv => whnf); first | refine brT ?_ | refine brF ?_)); conv => whnf)
    (refine ⟨fun h1 => ?_, fun h1 => ?_⟩ <;> rw [h1])
    · ((repeat ((conv => whnf); first | refine brT ?_ | refine brF ?_)); conv => whnf)
      exact fin (typB_l h1).symm
    have h8 : ss.length ≤ 8 := by rw [ltI_f] at h1; omega
    ((repeat ((conv => whnf); first | refine brT ?_ | refine brF ?_)); conv => whnf)
    refine ⟨_, sexesFrom_f e ss h8, ?_⟩
    ((repeat ((conv => whnf); first | refine brT ?_ | refine brF ?_)); conv => whnf)
    intro _
    rw [List.length_map, sexTo_len]
    ((repeat ((conv => whnf); first | refine brT ?_ | refine brF ?_)); conv => whnf)
    refine loop_rule (α := Nat) (fun k => [(26, .int .i64 (k : Int))]) (fun k => [.box (typLV e ss)]) (fun k => ss.length - k) (fun k => k ≤ ss.length ∧ stepsTo e ss k = true) 0 ⟨Nat.zero_le _, rfl⟩ ?_ ?_
    · refine ⟨?_, ⟨rfl, trivial⟩, rfl, rfl⟩
      ((repeat ((conv => whnf); refine ⟨rfl, ?_⟩)); trivial)
    rintro k ⟨hk, hs⟩
    ((repeat ((conv => whnf); first | refine brT ?_ | refine brF ?_)); conv => whnf)
    (refine ⟨fun g => ?_, fun g => ?_⟩ <;> rw [g])
    · have hlt : k < ss.length := by rw [ltI_t] at g; omega
      have e1 : LV.int .i64 (IntKind.i64.wrap ((k : Int) + 1)) = LV.int .i64 ((k + 1 : Nat) : Int) := step_i hlt hp'
      ((repeat ((conv => whnf); first | refine brT ?_ | refine brF ?_)); conv => whnf)
      refine ⟨k, intLV (sexAt e ss k), rfl, by rw [List.getElem?_map, sexTo_get hlt]; rfl, rfl, ?_⟩
      ((repeat ((conv => whnf); first | refine brT ?_ | refine brF ?_)); conv => whnf)
      refine ⟨k, ss[k].lv, rfl, by simp [hlt], rfl, ?_⟩
      ((repeat ((conv => whnf); first | refine brT ?_ | refine brF ?_)); conv => whnf)
      refine ⟨_, isStepFrom_spec _ ss[k], ?_⟩
      ((repeat ((conv => whnf); first | refine brT ?_ | refine brF ?_)); conv => whnf)
      (refine ⟨fun g2 => ?_, fun g2 => ?_⟩ <;> rw [g2])
      · rw [notB_t] at g2
        ((repeat ((conv => whnf); first | refine brT ?_ | refine brF ?_)); conv => whnf)
        exact fin (typB_s (stepsTo_no hlt hlt g2)).symm
      rw [notB_f] at g2
      ((repeat ((conv => whnf); first | refine brT ?_ | refine brF ?_)); conv => whnf)
      refine round_end (k + 1) ⟨hlt, stepsTo_succ hs hlt g2⟩ (by show ss.length - (k + 1) < ss.length - k; omega) ⟨?_, ⟨rfl, trivial⟩, rfl, rfl⟩
      ((repeat ((conv => whnf); first | refine ⟨e1, ?_⟩ | refine ⟨rfl, ?_⟩)); trivial)
    · have h3 : k = ss.length := by rw [ltI_f] at g; omega
      subst h3
      ((repeat ((conv => whnf); first | refine brT ?_ | refine brF ?_)); conv => whnf)
      exact fin (typB_y hE h1 hs).symm
end Go.Proofs.Ytpfipmjmblgjfaa

namespace Go.Proofs.Ytpfipmjmblgjfaa
open Go.Lg
set_option maxHeartbeats 1600000
set_option maxRecDepth 10000
set_option linter.unusedVariables false
set_option linter.unusedSimpArgs false

theorem szT_ok {l : Int} {n : Nat} (h0 : 0 ≤ l) (h1 : l ≤ 1048576) (hn : n ≤ Go.maxLen) (h : 0 ≤ szT l n) : szT l n = l - n ∧ (n : Int) ≤ l ∧ ltI (szT l n) 0 = false ∧ 16 * n ≤ 281474976710656 ∧ ltI (szN l n) 0 = false := by
  unfold szT at h ⊢
  cases hh : ltI (szN l n) 0
  · rw [hh] at h
    simp only at h ⊢
    obtain ⟨a1, a2⟩ := szN_ok h0 h1 hn h
    exact ⟨a1, a2, hh, by omega, trivial⟩
  · rw [hh] at h
    simp only at h
    omega
abbrev shStep : Sh := .st [.int .i64, .int .i64]
abbrev shTyp : Sh := .st [.int .i64, .sl (.st [.int .i64, .int .i64])]
theorem step_of_sh {x : LV} (h : hasSh shStep x) : ∃ p : Pr, x = p.lv ∧ True := by
  obtain ⟨ps, h1⟩ := prs_of [x] fun y hy => by simp at hy; subst hy; exact h
  match ps, h1 with
  | [p], h1 => exact ⟨p, by simpa using h1, trivial⟩
  | [], h1 => simp at h1
  | _ :: _ :: _, h1 => simp at h1
theorem typ_of_sh {x : LV} (h : hasSh shTyp x) : ∃ (e : Int) (ss : List Pr), x = typLV e ss ∧ ss.length ≤ Go.maxLen := by
  simp only [hasSh] at h
  obtain ⟨xs, rfl, h⟩ := h
  match xs, h with
  | [a, b], h =>
    simp only [hasShs, hasSh] at h
    obtain ⟨⟨n, rfl⟩, ⟨ys, rfl, hl, hy⟩, _⟩ := h
    obtain ⟨ps, rfl⟩ := prs_of ys fun y hy' => by simp only [hasSh]; exact hy y hy'
    exact ⟨n, ps, rfl, by simpa using hl⟩
  | [], h => simp [hasShs] at h
  | [_], h => simp [hasShs] at h
  | _ :: _ :: _ :: _, h => simp [hasShs] at h

/-- The sex of ego. -/
def egoT (e : Int) (ss : List Pr) : Int := match eqI e 0 with
  | true => (match ss with | [] => e | s :: _ => match eqI s.a 7 with | true => 2 | false => match eqI s.a 8 with | true => 1 | false => e)
  | false => e
theorem l3Ego_spec (e : Int) (ss : List Pr) : FSpec env.P 110 [typLV e ss] (.int .i64 (egoT e ss)) := by
  refine FSpec_of_code env_ok (fn := Try.f110) Try.func110 rfl Try.call110 _ _ ?_
  ((repeat ((conv => whnf); first | refine brT ?_ | refine brF ?_)); conv => whnf)
  (refine ⟨fun h => ?_, fun h => ?_⟩ <;> rw [h])
  · ((repeat ((conv => whnf); first | refine brT ?_ | refine brF ?_)); conv => whnf)
    intro hp
    rw [List.length_map]
    ((repeat ((conv => whnf); first | refine brT ?_ | refine brF ?_)); conv => whnf)
    (refine ⟨fun h1 => ?_, fun h1 => ?_⟩ <;> rw [h1])
    · match ss, h1 with
      | s :: ss, h1 =>
        ((repeat ((conv => whnf); first | refine brT ?_ | refine brF ?_)); conv => whnf)
        refine ⟨0, s.lv, rfl, rfl, rfl, ?_⟩
        ((repeat ((conv => whnf); first | refine brT ?_ | refine brF ?_)); conv => whnf)
        (refine ⟨fun h2 => ?_, fun h2 => ?_⟩ <;> rw [h2])
        · ((repeat ((conv => whnf); first | refine brT ?_ | refine brF ?_)); conv => whnf); exact ⟨rfl, by simp only [egoT, h, h2], List.nodup_nil⟩
        ((repeat ((conv => whnf); first | refine brT ?_ | refine brF ?_)); conv => whnf)
        (refine ⟨fun h3 => ?_, fun h3 => ?_⟩ <;> rw [h3])
        · ((repeat ((conv => whnf); first | refine brT ?_ | refine brF ?_)); conv => whnf); exact ⟨rfl, by simp only [egoT, h, h2, h3], List.nodup_nil⟩
        · ((repeat ((conv => whnf); first | refine brT ?_ | refine brF ?_)); conv => whnf); exact ⟨rfl, by simp only [egoT, h, h2, h3], List.nodup_nil⟩
      | [], h1 => simp [ltI_t] at h1
    · match ss, h1 with
      | [], h1 => ((repeat ((conv => whnf); first | refine brT ?_ | refine brF ?_)); conv => whnf); exact ⟨rfl, by simp only [egoT, h], List.nodup_nil⟩
      | s :: ss, h1 => rw [ltI_f] at h1; simp at h1; omega
  · ((repeat ((conv => whnf); first | refine brT ?_ | refine brF ?_)); conv => whnf); exact ⟨rfl, by simp only [egoT, h], List.nodup_nil⟩
def egoR (e : Int) (ss : List Pr) : Int := match typB e ss with | true => egoT e ss | false => 0
theorem egoOfType_impl (e : Int) (ss : List Pr) : FSpec env.P 113 [typLV e ss] (.int .i64 (egoR e ss)) := by
  refine FSpec_of_code env_ok (fn := Try.f113) Try.func113 rfl Try.call113 _ _ ?_
  ((repeat ((conv => whnf); first | refine brT ?_ | refine brF ?_)); conv => whnf)
  refine ⟨_, isType_impl e ss, ?_⟩
  ((repeat ((conv => whnf); first | refine brT ?_ | refine brF ?_)); conv => whnf)
  (refine ⟨fun h => ?_, fun h => ?_⟩ <;> rw [h])
  · rw [notB_t] at h; ((repeat ((conv => whnf); first | refine brT ?_ | refine brF ?_)); conv => whnf); exact ⟨rfl, by simp only [egoR, h], List.nodup_nil⟩
  rw [notB_f] at h
  ((repeat ((conv => whnf); first | refine brT ?_ | refine brF ?_)); conv => whnf)
  (refine ⟨fun h0 => ?_, fun h0 => ?_⟩ <;> rw [h0])
  · rw [notB_t] at h0; ((repeat ((conv => whnf); first | refine brT ?_ | refine brF ?_)); conv => whnf); exact ⟨rfl, by simp only [egoR, h, egoT, h0], List.nodup_nil⟩
  rw [notB_f] at h0
  ((repeat ((conv => whnf); first | refine brT ?_ | refine brF ?_)); conv => whnf)
  intro hp
  rw [List.length_map]
  ((repeat ((conv => whnf); first | refine brT ?_ | refine brF ?_)); conv => whnf)
  (refine ⟨fun h1 => ?_, fun h1 => ?_⟩ <;> rw [h1])
  · match ss, h1 with
    | [], h1 => ((repeat ((conv => whnf); first | refine brT ?_ | refine brF ?_)); conv => whnf); exact ⟨rfl, by simp only [egoR, h, egoT, h0], List.nodup_nil⟩
    | s :: ss, h1 => rw [eqI_t] at h1; simp at h1; omega
  · match ss, h1 with
    | s :: ss, h1 =>
      ((repeat ((conv => whnf); first | refine brT ?_ | refine brF ?_)); conv => whnf)
      refine ⟨0, s.lv, rfl, rfl, rfl, ?_⟩
      ((repeat ((conv => whnf); first | refine brT ?_ | refine brF ?_)); conv => whnf)
      (refine ⟨fun h2 => ?_, fun h2 => ?_⟩ <;> rw [h2])
      · ((repeat ((conv => whnf); first | refine brT ?_ | refine brF ?_)); conv => whnf); exact ⟨rfl, by simp only [egoR, h, egoT, h0, h2], List.nodup_nil⟩
      ((repeat ((conv => whnf); first | refine brT ?_ | refine brF ?_)); conv => whnf)
      (refine ⟨fun h3 => ?_, fun h3 => ?_⟩ <;> rw [h3])
      · ((repeat ((conv => whnf); first | refine brT ?_ | refine brF ?_)); conv => whnf); exact ⟨rfl, by simp only [egoR, h, egoT, h0, h2, h3], List.nodup_nil⟩
      · ((repeat ((conv => whnf); first | refine brT ?_ | refine brF ?_)); conv => whnf); exact ⟨rfl, by simp only [egoR, h, egoT, h0, h2, h3]; rw [eqI_t] at h0; rw [h0], List.nodup_nil⟩
    | [], h1 => simp [eqI_f] at h1
/-- The sex of whom a type leads to. -/
def lastT (e : Int) (ss : List Pr) : Int := match ss.getLast? with | some s => sxOf s.a | none => e
theorem lastT_at {e : Int} {ss : List Pr} (h : 0 < ss.length) : lastT e ss = sxOf (ss[ss.length - 1]'(by omega)).a := by
  unfold lastT
  rw [List.getLast?_eq_getElem?, List.getElem?_eq_getElem (by omega)]
theorem l3Last_spec (e : Int) (ss : List Pr) : FSpec env.P 120 [typLV e ss] (.int .i64 (lastT e ss)) := by
  refine FSpec_of_code env_ok (fn := Try.f120) Try.func120 rfl Try.call120 _ _ ?_
  ((repeat ((conv => whnf); first | refine brT ?_ | refine brF ?_)); conv => whnf)
  intro hp
  have hp' : ss.length ≤ Go.maxLen := by simpa using hp
  rw [List.length_map]
  ((repeat ((conv => whnf); first | refine brT ?_ | refine brF ?_)); conv => whnf)
  (refine ⟨fun h1 => ?_, fun h1 => ?_⟩ <;> rw [h1])
  · have : ss = [] := List.eq_nil_of_length_eq_zero (by rw [eqI_t] at h1; omega)
    subst this
    ((repeat ((conv => whnf); first | refine brT ?_ | refine brF ?_)); conv => whnf)
    exact ⟨rfl, rfl, List.nodup_nil⟩
  have hpos : 0 < ss.length := by rw [eqI_f] at h1; omega
  ((repeat ((conv => whnf); first | refine brT ?_ | refine brF ?_)); conv => whnf)
  intro _
  rw [List.length_map]
  ((repeat ((conv => whnf); first | refine brT ?_ | refine brF ?_)); conv => whnf)
  have e1 : IntKind.i64.wrap ((ss.length : Int) - 1) = ((ss.length - 1 : Nat) : Int) := by unfold Go.maxLen at hp'; rw [wrap64 (by omega) (by omega)]; omega
  refine ⟨ss.length - 1, (ss[ss.length - 1]'(by omega)).lv, e1, by rw [List.getElem?_map, List.getElem?_eq_getElem (by omega)]; rfl, rfl, ?_⟩
  ((repeat ((conv => whnf); first | refine brT ?_ | refine brF ?_)); conv => whnf)
  refine ⟨_, l3Sex_spec _, ?_⟩
  ((repeat ((conv => whnf); first | refine brT ?_ | refine brF ?_)); conv => whnf)
  exact ⟨rfl, by rw [lastT_at hpos], List.nodup_nil⟩
def sexR (e : Int) (ss : List Pr) : Int := match typB e ss with | true => lastT e ss | false => 0
theorem sexOfType_impl (e : Int) (ss : List Pr) : FSpec env.P 123 [typLV e ss] (.int .i64 (sexR e ss)) := by
  refine FSpec_of_code env_ok (fn := Try.f123) Try.func123 rfl Try.call123 _ _ ?_
  ((repeat ((conv => whnf); first | refine brT ?_ | refine brF ?_)); conv => whnf)
  refine ⟨_, isType_impl e ss, ?_⟩
  ((repeat ((conv => whnf); first | refine brT ?_ | refine brF ?_)); conv => whnf)
  (refine ⟨fun h => ?_, fun h => ?_⟩ <;> rw [h])
  · rw [notB_t] at h; ((repeat ((conv => whnf); first | refine brT ?_ | refine brF ?_)); conv => whnf); exact ⟨rfl, by simp only [sexR, h], List.nodup_nil⟩
  rw [notB_f] at h
  ((repeat ((conv => whnf); first | refine brT ?_ | refine brF ?_)); conv => whnf)
  intro hp
  have hp' : ss.length ≤ Go.maxLen := by simpa using hp
  rw [List.length_map]
  ((repeat ((conv => whnf); first | refine brT ?_ | refine brF ?_)); conv => whnf)
  (refine ⟨fun h1 => ?_, fun h1 => ?_⟩ <;> rw [h1])
  · have : ss = [] := List.eq_nil_of_length_eq_zero (by rw [eqI_t] at h1; omega)
    subst this
    ((repeat ((conv => whnf); first | refine brT ?_ | refine brF ?_)); conv => whnf)
    exact ⟨rfl, by simp only [sexR, h]; rfl, List.nodup_nil⟩
  have hpos : 0 < ss.length := by rw [eqI_f] at h1; omega
  ((repeat ((conv => whnf); first | refine brT ?_ | refine brF ?_)); conv => whnf)
  intro _
  rw [List.length_map]
  ((repeat ((conv => whnf); first | refine brT ?_ | refine brF ?_)); conv => whnf)
  have e1 : IntKind.i64.wrap ((ss.length : Int) - 1) = ((ss.length - 1 : Nat) : Int) := by unfold Go.maxLen at hp'; rw [wrap64 (by omega) (by omega)]; omega
  refine ⟨ss.length - 1, (ss[ss.length - 1]'(by omega)).lv, e1, by rw [List.getElem?_map, List.getElem?_eq_getElem (by omega)]; rfl, rfl, ?_⟩
  ((repeat ((conv => whnf); first | refine brT ?_ | refine brF ?_)); conv => whnf)
  refine ⟨_, sexOfStep_spec _, ?_⟩
  ((repeat ((conv => whnf); first | refine brT ?_ | refine brF ?_)); conv => whnf)
  exact ⟨rfl, by simp only [sexR, h]; rw [lastT_at hpos], List.nodup_nil⟩

theorem stEq (p q : Pr) : eqAll [LV.int .i64 p.a, LV.int .i64 p.b] [LV.int .i64 q.a, LV.int .i64 q.b] = p.eq q := by
  show (eqI p.a q.a && (eqI p.b q.b && true)) = _
  simp [Pr.eq]
theorem slicesEqual_spec (ps qs : List Pr) : FSpec env.P 211 [.sl (ps.map Pr.lv), .sl (qs.map Pr.lv)] (.bool (eqList Pr.eq ps qs)) := by
  refine FSpec_of_code env_ok (fn := Try.f211) Try.func211 rfl Try.call211 _ _ ?_
  ((repeat ((conv => whnf); first | refine brT ?_ | refine brF ?_)); conv => whnf)
  intro hp
  ((repeat ((conv => whnf); first | refine brT ?_ | refine brF ?_)); conv => whnf)
  intro hq
  ((repeat ((conv => whnf); first | refine brT ?_ | refine brF ?_)); conv => whnf)
  (refine ⟨fun h => ?_, fun h => ?_⟩ <;> rw [h])
  · ((repeat ((conv => whnf); first | refine brT ?_ | refine brF ?_)); conv => whnf)
    refine fin ?_
    rw [notB_t] at h
    rw [eqList_len (eqI_nolen h)]
  rw [notB_f] at h
  have hl := eqI_len h
  have hp' : ps.length ≤ Go.maxLen := by simpa using hp
  ((repeat ((conv => whnf); first | refine brT ?_ | refine brF ?_)); conv => whnf)
  intro _
  ((repeat ((conv => whnf); first | refine brT ?_ | refine brF ?_)); conv => whnf)
  refine loop_rule (α := Nat) (fun k => [(13, .int .i64 (k : Int))]) (fun _ => []) (fun k => ps.length - k) (fun k => k ≤ ps.length ∧ eqTo Pr.eq ps qs k) 0 ⟨Nat.zero_le _, fun _ _ _ h => absurd h (Nat.not_lt_zero _)⟩ ?_ ?_
  · refine ⟨?_, trivial, rfl, rfl⟩
    ((repeat ((conv => whnf); refine ⟨rfl, ?_⟩)); trivial)
  rintro k ⟨hk, he⟩
  ((repeat ((conv => whnf); first | refine brT ?_ | refine brF ?_)); conv => whnf)
  (refine ⟨fun h1 => ?_, fun h1 => ?_⟩ <;> rw [h1])
  · have hlt : k < ps.length := by rw [ltI_t] at h1; simp at h1; omega
    have hlt2 : k < qs.length := by omega
    ((repeat ((conv => whnf); first | refine brT ?_ | refine brF ?_)); conv => whnf)
    refine ⟨true, by kernel_rfl, ?_⟩
    ((repeat ((conv => whnf); first | refine brT ?_ | refine brF ?_)); conv => whnf)
    refine ⟨k, ps[k].lv, rfl, by simp [hlt], rfl, ?_⟩
    ((repeat ((conv => whnf); first | refine brT ?_ | refine brF ?_)); conv => whnf)
    refine ⟨k, qs[k].lv, rfl, by simp [hlt2], rfl, ?_⟩
    ((repeat ((conv => whnf); first | refine brT ?_ | refine brF ?_)); conv => whnf)
    rw [stEq]
    (refine ⟨fun h3 => ?_, fun h3 => ?_⟩ <;> rw [h3])
    · rw [notB_t] at h3
      ((repeat ((conv => whnf); first | refine brT ?_ | refine brF ?_)); conv => whnf)
      refine fin ?_
      rw [eqList_no (k := k) (x := ps[k]) (y := qs[k]) (by simp [hlt]) (by simp [hlt2]) h3]
    · rw [notB_f] at h3
      ((repeat ((conv => whnf); first | refine brT ?_ | refine brF ?_)); conv => whnf)
      refine round_end (k + 1) ⟨hlt, he.succ (x := ps[k]) (y := qs[k]) (by simp [hlt]) (by simp [hlt2]) h3⟩ (by omega) ⟨?_, trivial, rfl, rfl⟩
      have e := step_i hlt hp'
      ((repeat ((conv => whnf); first | refine ⟨e, ?_⟩ | refine ⟨rfl, ?_⟩)); trivial)
  · have h3 : ps.length ≤ k := by rw [ltI_f] at h1; simp at h1; omega
    have h4 : k = ps.length := by omega
    subst h4
    ((repeat ((conv => whnf); first | refine brT ?_ | refine brF ?_)); conv => whnf)
    refine fin ?_
    rw [eqTo.all hl he]
theorem l3Steps_spec (ps qs : List Pr) : FSpec env.P 227 [.sl (ps.map Pr.lv), .sl (qs.map Pr.lv)] (.bool (eqList Pr.eq ps qs)) := by
  refine FSpec_of_code env_ok (fn := Try.f227) Try.func227 rfl Try.call227 _ _ ?_
  ((repeat ((conv => whnf); first | refine brT ?_ | refine brF ?_)); conv => whnf)
  intro hp
  ((repeat ((conv => whnf); first | refine brT ?_ | refine brF ?_)); conv => whnf)
  intro hq
  ((repeat ((conv => whnf); first | refine brT ?_ | refine brF ?_)); conv => whnf)
  (refine ⟨fun h => ?_, fun h => ?_⟩ <;> rw [h])
  · ((repeat ((conv => whnf); first | refine brT ?_ | refine brF ?_)); conv => whnf)
    refine fin ?_
    rw [notB_t] at h
    rw [eqList_len (eqI_nolen h)]
  rw [notB_f] at h
  have hl := eqI_len h
  have hp' : ps.length ≤ Go.maxLen := by simpa using hp
  ((repeat ((conv => whnf); first | refine brT ?_ | refine brF ?_)); conv => whnf)
  intro _
  ((repeat ((conv => whnf); first | refine brT ?_ | refine brF ?_)); conv => whnf)
  refine loop_rule (α := Nat) (fun k => [(13, .int .i64 (k : Int))]) (fun _ => []) (fun k => ps.length - k) (fun k => k ≤ ps.length ∧ eqTo Pr.eq ps qs k) 0 ⟨Nat.zero_le _, fun _ _ _ h => absurd h (Nat.not_lt_zero _)⟩ ?_ ?_
  · refine ⟨?_, trivial, rfl, rfl⟩
    ((repeat ((conv => whnf); refine ⟨rfl, ?_⟩)); trivial)
  rintro k ⟨hk, he⟩
  ((repeat ((conv => whnf); first | refine brT ?_ | refine brF ?_)); conv => whnf)
  (refine ⟨fun h1 => ?_, fun h1 => ?_⟩ <;> rw [h1])
  · have hlt : k < ps.length := by rw [ltI_t] at h1; simp at h1; omega
    have hlt2 : k < qs.length := by omega
    ((repeat ((conv => whnf); first | refine brT ?_ | refine brF ?_)); conv => whnf)
    refine ⟨true, by kernel_rfl, ?_⟩
    ((repeat ((conv => whnf); first | refine brT ?_ | refine brF ?_)); conv => whnf)
    refine ⟨k, ps[k].lv, rfl, by simp [hlt], rfl, ?_⟩
    ((repeat ((conv => whnf); first | refine brT ?_ | refine brF ?_)); conv => whnf)
    refine ⟨k, qs[k].lv, rfl, by simp [hlt2], rfl, ?_⟩
    ((repeat ((conv => whnf); first | refine brT ?_ | refine brF ?_)); conv => whnf)
    rw [stEq]
    (refine ⟨fun h3 => ?_, fun h3 => ?_⟩ <;> rw [h3])
    · rw [notB_t] at h3
      ((repeat ((conv => whnf); first | refine brT ?_ | refine brF ?_)); conv => whnf)
      refine fin ?_
      rw [eqList_no (k := k) (x := ps[k]) (y := qs[k]) (by simp [hlt]) (by simp [hlt2]) h3]
    · rw [notB_f] at h3
      ((repeat ((conv => whnf); first | refine brT ?_ | refine brF ?_)); conv => whnf)
      refine round_end (k + 1) ⟨hlt, he.succ (x := ps[k]) (y := qs[k]) (by simp [hlt]) (by simp [hlt2]) h3⟩ (by omega) ⟨?_, trivial, rfl, rfl⟩
      have e := step_i hlt hp'
      ((repeat ((conv => whnf); first | refine ⟨e, ?_⟩ | refine ⟨rfl, ?_⟩)); trivial)
  · have h3 : ps.length ≤ k := by rw [ltI_f] at h1; simp at h1; omega
    have h4 : k = ps.length := by omega
    subst h4
    ((repeat ((conv => whnf); first | refine brT ?_ | refine brF ?_)); conv => whnf)
    refine fin ?_
    rw [eqTo.all hl he]
theorem equalTypes_spec (e : Int) (ss : List Pr) (f : Int) (ts : List Pr) : FSpec env.P 205 [typLV e ss, typLV f ts] (.bool (eqTyp e ss f ts)) := by
  refine FSpec_of_code env_ok (fn := Try.f205) Try.func205 rfl Try.call205 _ _ ?_
  ((repeat' (((repeat ((conv => whnf); first | refine brT ?_ | refine brF ?_)); conv => whnf); first | (refine And.intro ?_ ?_ <;> (intro h; rw [h]; revert h; intro _)) | (refine Exists.intro true (And.intro (a := drawB _ _ = true) (by kernel_rfl) ?_)) | (refine Exists.intro _ (And.intro (l3Steps_spec ss ts) ?_)))); all_goals ((repeat ((conv => whnf); first | refine brT ?_ | refine brF ?_)); conv => whnf))
  all_goals (refine fin ?_; simp_all [eqTyp, notB])
theorem equalTypes_impl (e : Int) (ss : List Pr) (f : Int) (ts : List Pr) : FSpec env.P 183 [typLV e ss, typLV f ts] (.bool (eqTyp e ss f ts)) := by
  refine FSpec_of_code env_ok (fn := Try.f183) Try.func183 rfl Try.call183 _ _ ?_
  ((repeat' (((repeat ((conv => whnf); first | refine brT ?_ | refine brF ?_)); conv => whnf); first | (refine And.intro ?_ ?_ <;> (intro h; rw [h]; revert h; intro _)) | (refine Exists.intro true (And.intro (a := drawB _ _ = true) (by kernel_rfl) ?_)) | (refine Exists.intro _ (And.intro (slicesEqual_spec ss ts) ?_)))); all_goals ((repeat ((conv => whnf); first | refine brT ?_ | refine brF ?_)); conv => whnf))
  all_goals (refine fin ?_; simp_all [eqTyp, notB])
end Go.Proofs.Ytpfipmjmblgjfaa

namespace Go.Proofs.Ytpfipmjmblgjfaa
open Go.Lg
set_option maxHeartbeats 1600000
set_option maxRecDepth 10000
set_option linter.unusedVariables false
set_option linter.unusedSimpArgs false

theorem finI {p : Prop} (h : p) : IntKind.i64 = IntKind.i64 ∧ p ∧ (fun ids : List Nat => ids.Nodup) [] := ⟨rfl, h, List.nodup_nil⟩

/-! A rule: its name, its sex and place, the steps that it replaces and by which. -/
structure Rul where
  name : ByteArray
  sex : Int
  place : Int
  fr : List Pr
  to : List Pr
def Rul.lv (r : Rul) : LV := .st [.str r.name, .int .i64 r.sex, .int .i64 r.place, .sl (r.fr.map Pr.lv), .sl (r.to.map Pr.lv)]
def Rul.own (r : Rul) (e : Nat) : LV := .st [.str r.name, .int .i64 r.sex, .int .i64 r.place, .own e 2 (r.fr.map Pr.lv), .own e 2 (r.to.map Pr.lv)]
/-- Its parts are of a length that memory allows. -/
def Rul.OK (r : Rul) : Prop := r.name.size ≤ Go.maxLen ∧ r.fr.length ≤ Go.maxLen ∧ r.to.length ≤ Go.maxLen
def szR (l : Int) (r : Rul) : Int := match ltI (IntKind.i64.wrap (l - (r.name.size : Int))) 0 with
  | true => -1
  | false => match ltI (szN (IntKind.i64.wrap (l - (r.name.size : Int))) r.fr.length) 0 with
    | true => -1
    | false => szT (szN (IntKind.i64.wrap (l - (r.name.size : Int))) r.fr.length) r.to.length
theorem szRule_spec (r : Rul) (l : Int) : FSpec env.P 77 [r.lv, .int .i64 l] (.int .i64 (szR l r)) := by
  refine FSpec_of_code env_ok (fn := Try.f77) Try.func77 rfl Try.call77 _ _ ?_
  ((repeat ((conv => whnf); first | refine brT ?_ | refine brF ?_)); conv => whnf)
  intro hm
  ((repeat ((conv => whnf); first | refine brT ?_ | refine brF ?_)); conv => whnf)
  (refine ⟨fun h => ?_, fun h => ?_⟩ <;> rw [h])
  · ((repeat ((conv => whnf); first | refine brT ?_ | refine brF ?_)); conv => whnf); exact finI (by unfold szR; rw [h])
  ((repeat ((conv => whnf); first | refine brT ?_ | refine brF ?_)); conv => whnf)
  refine ⟨_, szStepS_spec r.fr _, ?_⟩
  ((repeat ((conv => whnf); first | refine brT ?_ | refine brF ?_)); conv => whnf)
  (refine ⟨fun h1 => ?_, fun h1 => ?_⟩ <;> rw [h1])
  · ((repeat ((conv => whnf); first | refine brT ?_ | refine brF ?_)); conv => whnf); exact finI (by unfold szR; simp only [h, h1])
  ((repeat ((conv => whnf); first | refine brT ?_ | refine brF ?_)); conv => whnf)
  refine ⟨_, szStepS_spec r.to _, ?_⟩
  ((repeat ((conv => whnf); first | refine brT ?_ | refine brF ?_)); conv => whnf)
  (refine ⟨fun h2 => ?_, fun h2 => ?_⟩ <;> rw [h2])
  · ((repeat ((conv => whnf); first | refine brT ?_ | refine brF ?_)); conv => whnf); exact finI (by unfold szR szT; simp only [h, h1, h2])
  · ((repeat ((conv => whnf); first | refine brT ?_ | refine brF ?_)); conv => whnf); exact finI (by unfold szR szT; simp only [h, h1, h2])
theorem szR_ok {l : Int} {r : Rul} (hr : r.OK) (h0 : 0 ≤ l) (h1 : l ≤ 1048576) (h : 0 ≤ szR l r) :
    szR l r = l - r.name.size - r.fr.length - r.to.length ∧ ltI (szR l r) 0 = false ∧ 16 * r.fr.length ≤ 281474976710656 ∧ 16 * r.to.length ≤ 281474976710656 ∧ r.fr.length ≤ 1048576 ∧ r.to.length ≤ 1048576 ∧ (r.name.size : Int) ≤ l := by
  obtain ⟨hn, hf, ht⟩ := hr
  unfold Go.maxLen at hn hf ht
  have hw : IntKind.i64.wrap (l - (r.name.size : Int)) = l - r.name.size := wrap64 (by omega) (by omega)
  unfold szR at h ⊢
  rw [hw] at h ⊢
  split at h
  · omega
  rename_i e1
  rw [ltI_f] at e1
  split at h
  · omega
  rename_i e2
  rw [ltI_f] at e2
  have hw2 : szN (l - r.name.size) r.fr.length = l - r.name.size - r.fr.length := by
    unfold szN at e2 ⊢
    have hw3 : IntKind.i64.wrap (l - (r.name.size : Int) - (r.fr.length : Int)) = l - r.name.size - r.fr.length := wrap64 (by omega) (by omega)
    rw [hw3] at e2 ⊢
    cases hh : ltI (l - (r.name.size : Int) - (r.fr.length : Int)) 0 <;> rw [hh] at e2
    simp only at e2
    omega
  try simp only [show ltI (l - (r.name.size : Int)) 0 = false by rw [ltI_f]; omega]
  rw [hw2] at h e2 ⊢
  try simp only [show ltI (l - (r.name.size : Int) - (r.fr.length : Int)) 0 = false by rw [ltI_f]; omega]
  obtain ⟨k1, k2, k3, k4, -⟩ := szT_ok (l := l - r.name.size - r.fr.length) (n := r.to.length) (by omega) (by omega) (by unfold Go.maxLen; omega) h
  exact ⟨by omega, k3, by omega, k4, by omega, by omega, by omega⟩

theorem toRule_f (r : Rul) (h1 : 16 * r.fr.length ≤ 281474976710656) (h2 : 16 * r.to.length ≤ 281474976710656) : FSpec env.P 79 [r.lv] r.lv := by
  refine FSpec_of_code env_ok (fn := Try.f79) Try.func79 rfl Try.call79 _ _ ?_
  ((repeat ((conv => whnf); first | refine brT ?_ | refine brF ?_)); conv => whnf)
  refine ⟨_, toStepS_f r.fr h1, ?_⟩
  ((repeat ((conv => whnf); first | refine brT ?_ | refine brF ?_)); conv => whnf)
  refine ⟨_, toStepS_f r.to h2, ?_⟩
  ((repeat ((conv => whnf); first | refine brT ?_ | refine brF ?_)); conv => whnf)
  exact ⟨_, rfl, rfl, rfl, rfl, rfl, rfl, rfl, rfl, by simp [exsW, exW]⟩

def Rul.eq (r s : Rul) : Bool := eqS r.name s.name && (eqI r.sex s.sex && (eqI r.place s.place && (eqList Pr.eq r.fr s.fr && eqList Pr.eq r.to s.to)))
theorem eqRule_spec (r s : Rul) : FSpec env.P 81 [r.lv, s.lv] (.bool (r.eq s)) := by
  refine FSpec_of_code env_ok (fn := Try.f81) Try.func81 rfl Try.call81 _ _ ?_
  ((repeat' (((repeat ((conv => whnf); first | refine brT ?_ | refine brF ?_)); conv => whnf); first | (refine And.intro ?_ ?_ <;> (intro h; rw [h]; revert h; intro _)) | (refine Exists.intro true (And.intro (a := drawB _ _ = true) (by kernel_rfl) ?_)) | (refine Exists.intro _ (And.intro (eqStepS_spec r.fr s.fr) ?_)) | (refine Exists.intro _ (And.intro (eqStepS_spec r.to s.to) ?_)))); all_goals ((repeat ((conv => whnf); first | refine brT ?_ | refine brF ?_)); conv => whnf))
  all_goals (refine fin ?_; simp_all [Rul.eq, notB])
theorem Rul.eq_refl (r : Rul) : r.eq r = true := by simp [Rul.eq, eqS_refl, eqI_refl, eqPairS_refl]

/-! Comparisons of steps. -/
def cmpI (a b : Int) : Int := match ltI a b with | true => -1 | false => match ltI b a with | true => 1 | false => 0
theorem isNaN_spec (a : Int) : FSpec env.P 226 [.int .i64 a] (.bool false) := by
  refine FSpec_of_code env_ok (fn := Try.f226) Try.func226 rfl Try.call226 _ _ ?_
  ((repeat ((conv => whnf); first | refine brT ?_ | refine brF ?_)); conv => whnf)
  exact fin (by rw [eqI_refl]; simp [notB])
theorem compare_spec (a b : Int) : FSpec env.P 204 [.int .i64 a, .int .i64 b] (.int .i64 (cmpI a b)) := by
  refine FSpec_of_code env_ok (fn := Try.f204) Try.func204 rfl Try.call204 _ _ ?_
  ((repeat' (((repeat ((conv => whnf); first | refine brT ?_ | refine brF ?_)); conv => whnf); first | (refine And.intro ?_ ?_ <;> (intro h; rw [h]; revert h; intro _)) | (refine Exists.intro true (And.intro (a := drawB _ _ = true) (by kernel_rfl) ?_)) | (refine Exists.intro _ (And.intro (isNaN_spec a) ?_)) | (refine Exists.intro _ (And.intro (isNaN_spec b) ?_)))); all_goals ((repeat ((conv => whnf); first | refine brT ?_ | refine brF ?_)); conv => whnf))
  all_goals (refine finI ?_; simp_all [cmpI])
def orL : List Int → Int
  | [] => 0
  | x :: xs => match eqI x 0 with | true => orL xs | false => x
theorem orL_drop {xs : List Int} : ∀ {k : Nat}, (∀ j x, j < k → xs[j]? = some x → eqI x 0 = true) → orL (xs.drop k) = orL xs := by
  induction xs with
  | nil => intro k _; simp
  | cons x xs ih =>
    intro k h
    cases k with
    | zero => rfl
    | succ k =>
      have h0 := h 0 x (by omega) rfl
      simp only [List.drop_succ_cons, orL, h0]
      exact ih fun j y hj hy => h (j + 1) y (by omega) (by simpa using hy)
theorem cmpOr_spec (xs : List Int) : FSpec env.P 172 [.sl (xs.map fun x => .int .i64 x)] (.int .i64 (orL xs)) := by
  refine FSpec_of_code env_ok (fn := Try.f172) Try.func172 rfl Try.call172 _ _ ?_
  ((repeat ((conv => whnf); first | refine brT ?_ | refine brF ?_)); conv => whnf)
  intro hm
  rw [List.length_map] at hm ⊢
  ((repeat ((conv => whnf); first | refine brT ?_ | refine brF ?_)); conv => whnf)
  refine loop_rule (α := Nat) (fun k => [(8, .int .i64 (k : Int))]) (fun _ => []) (fun k => xs.length - k) (fun k => k ≤ xs.length ∧ ∀ j x, j < k → xs[j]? = some x → eqI x 0 = true) 0 ⟨Nat.zero_le _, fun _ _ h => absurd h (Nat.not_lt_zero _)⟩ ?_ ?_
  · refine ⟨?_, trivial, rfl, rfl⟩
    ((repeat ((conv => whnf); refine ⟨rfl, ?_⟩)); trivial)
  rintro k ⟨hk, hz⟩
  ((repeat ((conv => whnf); first | refine brT ?_ | refine brF ?_)); conv => whnf)
  (refine ⟨fun h1 => ?_, fun h1 => ?_⟩ <;> rw [h1])
  · have hlt : k < xs.length := by rw [ltI_t] at h1; omega
    ((repeat ((conv => whnf); first | refine brT ?_ | refine brF ?_)); conv => whnf)
    refine ⟨k, .int .i64 xs[k], rfl, by simp [hlt], rfl, ?_⟩
    ((repeat ((conv => whnf); first | refine brT ?_ | refine brF ?_)); conv => whnf)
    (refine ⟨fun h2 => ?_, fun h2 => ?_⟩ <;> rw [h2])
    · ((repeat ((conv => whnf); first | refine brT ?_ | refine brF ?_)); conv => whnf)
      refine finI ?_
      rw [notB_t] at h2
      rw [← orL_drop (k := k) hz, List.drop_eq_getElem_cons hlt]
      simp only [orL, h2]
    · rw [notB_f] at h2
      ((repeat ((conv => whnf); first | refine brT ?_ | refine brF ?_)); conv => whnf)
      refine round_end (k + 1) ⟨hlt, fun j x hj hx => ?_⟩ (by omega) ⟨?_, trivial, rfl, rfl⟩
      · by_cases e : j = k
        · subst e; rw [List.getElem?_eq_getElem hlt] at hx; cases hx; exact h2
        · exact hz j x (by omega) hx
      have e := step_i hlt hm
      ((repeat ((conv => whnf); first | refine ⟨e, ?_⟩ | refine ⟨rfl, ?_⟩)); trivial)
  · have h4 : k = xs.length := by rw [ltI_f] at h1; omega
    subst h4
    ((repeat ((conv => whnf); first | refine brT ?_ | refine brF ?_)); conv => whnf)
    refine finI ?_
    rw [← orL_drop (k := xs.length) hz]
    simp [orL]
def cmpS (p q : Pr) : Int := orL [cmpI p.a q.a, cmpI p.b q.b]
theorem compareSteps_spec (p q : Pr) : FSpec env.P 220 [p.lv, q.lv] (.int .i64 (cmpS p q)) := by
  refine FSpec_of_code env_ok (fn := Try.f220) Try.func220 rfl Try.call220 _ _ ?_
  ((repeat ((conv => whnf); first | refine brT ?_ | refine brF ?_)); conv => whnf)
  refine ⟨true, by kernel_rfl, ?_⟩
  ((repeat ((conv => whnf); first | refine brT ?_ | refine brF ?_)); conv => whnf)
  refine ⟨_, compare_spec p.a q.a, ?_⟩
  ((repeat ((conv => whnf); first | refine brT ?_ | refine brF ?_)); conv => whnf)
  refine ⟨_, compare_spec p.b q.b, ?_⟩
  ((repeat ((conv => whnf); first | refine brT ?_ | refine brF ?_)); conv => whnf)
  refine ⟨rfl, _, cmpOr_spec [cmpI p.a q.a, cmpI p.b q.b], ?_⟩
  ((repeat ((conv => whnf); first | refine brT ?_ | refine brF ?_)); conv => whnf)
  exact finI rfl
def cmpFL : List Pr → List Pr → Int
  | [], [] => 0
  | [], _ :: _ => -1
  | _ :: _, [] => 1
  | p :: ps, q :: qs => match eqI (cmpS p q) 0 with | true => cmpFL ps qs | false => cmpS p q
def befL : List Pr → List Pr → Bool
  | p :: ps, q :: qs => match eqI p.a q.a with
    | true => (match eqI p.b q.b with | true => befL ps qs | false => ltI p.b q.b)
    | false => ltI p.a q.a
  | _, _ => false
theorem cmpFL_drop {ps qs : List Pr} : ∀ {k : Nat}, (∀ j p q, j < k → ps[j]? = some p → qs[j]? = some q → eqI (cmpS p q) 0 = true) → k ≤ ps.length → k ≤ qs.length → cmpFL (ps.drop k) (qs.drop k) = cmpFL ps qs := by
  induction ps generalizing qs with
  | nil => intro k _ h1 h2; have : k = 0 := by simpa using h1
           subst this; rfl
  | cons p ps ih =>
    intro k h h1 h2
    cases k with
    | zero => rfl
    | succ k =>
      cases qs with
      | nil => simp at h2
      | cons q qs =>
        have h0 := h 0 p q (by omega) rfl rfl
        simp only [List.drop_succ_cons, cmpFL, h0]
        exact ih (fun j x y hj hx hy => h (j + 1) x y (by omega) (by simpa using hx) (by simpa using hy)) (by simpa using h1) (by simpa using h2)
theorem compareFunc_spec (ps qs : List Pr) : FSpec env.P 219 [.sl (ps.map Pr.lv), .sl (qs.map Pr.lv), .clos 220 []] (.int .i64 (cmpFL ps qs)) := by
  refine FSpec_of_code env_ok (fn := Try.f219) Try.func219 rfl Try.call219 _ _ ?_
  ((repeat ((conv => whnf); first | refine brT ?_ | refine brF ?_)); conv => whnf)
  intro hm
  rw [List.length_map] at hm ⊢
  ((repeat ((conv => whnf); first | refine brT ?_ | refine brF ?_)); conv => whnf)
  refine loop_rule (α := Nat) (fun k => [(13, .int .i64 (k : Int))]) (fun _ => []) (fun k => ps.length - k) (fun k => k ≤ ps.length ∧ k ≤ qs.length ∧ ∀ j p q, j < k → ps[j]? = some p → qs[j]? = some q → eqI (cmpS p q) 0 = true) 0 ⟨Nat.zero_le _, Nat.zero_le _, fun _ _ _ h => absurd h (Nat.not_lt_zero _)⟩ ?_ ?_
  · refine ⟨?_, trivial, rfl, rfl⟩
    ((repeat ((conv => whnf); refine ⟨rfl, ?_⟩)); trivial)
  rintro k ⟨hk, hk2, hz⟩
  ((repeat ((conv => whnf); first | refine brT ?_ | refine brF ?_)); conv => whnf)
  (refine ⟨fun h1 => ?_, fun h1 => ?_⟩ <;> rw [h1])
  · have hlt : k < ps.length := by rw [ltI_t] at h1; omega
    ((repeat ((conv => whnf); first | refine brT ?_ | refine brF ?_)); conv => whnf)
    refine ⟨k, ps[k].lv, rfl, by simp [hlt], rfl, ?_⟩
    ((repeat ((conv => whnf); first | refine brT ?_ | refine brF ?_)); conv => whnf)
    intro hm2
    rw [List.length_map] at hm2 ⊢
    ((repeat ((conv => whnf); first | refine brT ?_ | refine brF ?_)); conv => whnf)
    (refine ⟨fun h2 => ?_, fun h2 => ?_⟩ <;> rw [h2])
    · rw [leI_t] at h2
      ((repeat ((conv => whnf); first | refine brT ?_ | refine brF ?_)); conv => whnf)
      refine finI ?_
      rw [← cmpFL_drop hz hk hk2, List.drop_eq_getElem_cons hlt, show qs.drop k = [] from List.drop_eq_nil_of_le (by omega)]
      simp only [cmpFL]
    · rw [leI_f] at h2
      have hlt2 : k < qs.length := by omega
      ((repeat ((conv => whnf); first | refine brT ?_ | refine brF ?_)); conv => whnf)
      refine ⟨k, qs[k].lv, rfl, by simp [hlt2], rfl, ?_⟩
      ((repeat ((conv => whnf); first | refine brT ?_ | refine brF ?_)); conv => whnf)
      refine ⟨_, compareSteps_spec ps[k] qs[k], ?_⟩
      ((repeat ((conv => whnf); first | refine brT ?_ | refine brF ?_)); conv => whnf)
      (refine ⟨fun h3 => ?_, fun h3 => ?_⟩ <;> rw [h3])
      · rw [notB_t] at h3
        ((repeat ((conv => whnf); first | refine brT ?_ | refine brF ?_)); conv => whnf)
        refine finI ?_
        rw [← cmpFL_drop hz hk hk2, List.drop_eq_getElem_cons hlt, List.drop_eq_getElem_cons hlt2]
        simp only [cmpFL, h3]
      · rw [notB_f] at h3
        ((repeat ((conv => whnf); first | refine brT ?_ | refine brF ?_)); conv => whnf)
        refine round_end (k + 1) ⟨hlt, hlt2, fun j x y hj hx hy => ?_⟩ (by omega) ⟨?_, trivial, rfl, rfl⟩
        · by_cases e : j = k
          · subst e; rw [List.getElem?_eq_getElem hlt] at hx; rw [List.getElem?_eq_getElem hlt2] at hy; cases hx; cases hy; exact h3
          · exact hz j x y (by omega) hx hy
        have e := step_i hlt hm
        ((repeat ((conv => whnf); first | refine ⟨e, ?_⟩ | refine ⟨rfl, ?_⟩)); trivial)
  · have h4 : k = ps.length := by rw [ltI_f] at h1; omega
    subst h4
    ((repeat ((conv => whnf); first | refine brT ?_ | refine brF ?_)); conv => whnf)
    intro _
    rw [List.length_map]
    ((repeat ((conv => whnf); first | refine brT ?_ | refine brF ?_)); conv => whnf)
    intro _
    rw [List.length_map]
    ((repeat ((conv => whnf); first | refine brT ?_ | refine brF ?_)); conv => whnf)
    (refine ⟨fun h5 => ?_, fun h5 => ?_⟩ <;> rw [h5])
    · rw [ltI_t] at h5
      ((repeat ((conv => whnf); first | refine brT ?_ | refine brF ?_)); conv => whnf)
      refine finI ?_
      rw [← cmpFL_drop hz hk hk2, List.drop_eq_nil_of_le (Nat.le_refl _), List.drop_eq_getElem_cons (l := qs) (i := ps.length) (by omega)]
      simp only [cmpFL]
    · rw [ltI_f] at h5
      ((repeat ((conv => whnf); first | refine brT ?_ | refine brF ?_)); conv => whnf)
      refine finI ?_
      rw [← cmpFL_drop hz hk hk2, List.drop_eq_nil_of_le (Nat.le_refl _), List.drop_eq_nil_of_le (by omega)]
      simp only [cmpFL]
def cmpPt (a b : List Pr) : Int := orL [cmpI a.length b.length, cmpFL a b]
theorem compareParts_spec (a b : List Pr) : FSpec env.P 195 [.sl (a.map Pr.lv), .sl (b.map Pr.lv)] (.int .i64 (cmpPt a b)) := by
  refine FSpec_of_code env_ok (fn := Try.f195) Try.func195 rfl Try.call195 _ _ ?_
  ((repeat ((conv => whnf); first | refine brT ?_ | refine brF ?_)); conv => whnf)
  intro _
  rw [List.length_map]
  ((repeat ((conv => whnf); first | refine brT ?_ | refine brF ?_)); conv => whnf)
  intro _
  rw [List.length_map]
  ((repeat ((conv => whnf); first | refine brT ?_ | refine brF ?_)); conv => whnf)
  refine ⟨_, compare_spec a.length b.length, ?_⟩
  ((repeat ((conv => whnf); first | refine brT ?_ | refine brF ?_)); conv => whnf)
  refine ⟨_, compareFunc_spec a b, ?_⟩
  ((repeat ((conv => whnf); first | refine brT ?_ | refine brF ?_)); conv => whnf)
  refine ⟨rfl, _, cmpOr_spec [cmpI a.length b.length, cmpFL a b], ?_⟩
  ((repeat ((conv => whnf); first | refine brT ?_ | refine brF ?_)); conv => whnf)
  exact finI rfl
theorem befL_drop {ps qs : List Pr} : ∀ {k : Nat}, (∀ j p q, j < k → ps[j]? = some p → qs[j]? = some q → eqI p.a q.a = true ∧ eqI p.b q.b = true) → k ≤ ps.length → k ≤ qs.length → befL (ps.drop k) (qs.drop k) = befL ps qs := by
  induction ps generalizing qs with
  | nil => intro k _ h1 h2; have : k = 0 := by simpa using h1
           subst this; rfl
  | cons p ps ih =>
    intro k h h1 h2
    cases k with
    | zero => rfl
    | succ k =>
      cases qs with
      | nil => simp at h2
      | cons q qs =>
        obtain ⟨h0, h0'⟩ := h 0 p q (by omega) rfl rfl
        simp only [List.drop_succ_cons, befL, h0, h0']
        exact ih (fun j x y hj hx hy => h (j + 1) x y (by omega) (by simpa using hx) (by simpa using hy)) (by simpa using h1) (by simpa using h2)
def befP (a b : List Pr) : Bool := match eqI (a.length : Int) b.length with | true => befL a b | false => ltI (a.length : Int) b.length
theorem l4Before_spec (ps qs : List Pr) : FSpec env.P 192 [.sl (ps.map Pr.lv), .sl (qs.map Pr.lv)] (.bool (befP ps qs)) := by
  refine FSpec_of_code env_ok (fn := Try.f192) Try.func192 rfl Try.call192 _ _ ?_
  ((repeat ((conv => whnf); first | refine brT ?_ | refine brF ?_)); conv => whnf)
  intro hm
  rw [List.length_map] at hm ⊢
  ((repeat ((conv => whnf); first | refine brT ?_ | refine brF ?_)); conv => whnf)
  intro hm2
  rw [List.length_map] at hm2 ⊢
  ((repeat ((conv => whnf); first | refine brT ?_ | refine brF ?_)); conv => whnf)
  (refine ⟨fun h => ?_, fun h => ?_⟩ <;> rw [h])
  · rw [notB_t] at h
    ((repeat ((conv => whnf); first | refine brT ?_ | refine brF ?_)); conv => whnf)
    intro _
    rw [List.length_map]
    ((repeat ((conv => whnf); first | refine brT ?_ | refine brF ?_)); conv => whnf)
    intro _
    rw [List.length_map]
    ((repeat ((conv => whnf); first | refine brT ?_ | refine brF ?_)); conv => whnf)
    exact fin (by unfold befP; rw [h])
  rw [notB_f] at h
  have hl : ps.length = qs.length := by rw [eqI_t] at h; omega
  ((repeat ((conv => whnf); first | refine brT ?_ | refine brF ?_)); conv => whnf)
  intro _
  rw [List.length_map]
  ((repeat ((conv => whnf); first | refine brT ?_ | refine brF ?_)); conv => whnf)
  refine loop_rule (α := Nat) (fun k => [(18, .int .i64 (k : Int))]) (fun _ => []) (fun k => ps.length - k) (fun k => k ≤ ps.length ∧ ∀ j p q, j < k → ps[j]? = some p → qs[j]? = some q → eqI p.a q.a = true ∧ eqI p.b q.b = true) 0 ⟨Nat.zero_le _, fun _ _ _ h => absurd h (Nat.not_lt_zero _)⟩ ?_ ?_
  · refine ⟨?_, trivial, rfl, rfl⟩
    ((repeat ((conv => whnf); refine ⟨rfl, ?_⟩)); trivial)
  rintro k ⟨hk, hz⟩
  have hk2 : k ≤ qs.length := by omega
  ((repeat ((conv => whnf); first | refine brT ?_ | refine brF ?_)); conv => whnf)
  (refine ⟨fun h1 => ?_, fun h1 => ?_⟩ <;> rw [h1])
  · have hlt : k < ps.length := by rw [ltI_t] at h1; omega
    have hlt2 : k < qs.length := by omega
    have e1 : befP ps qs = befL (ps[k] :: ps.drop (k + 1)) (qs[k] :: qs.drop (k + 1)) := by
      unfold befP; rw [h]; simp only
      rw [← befL_drop hz hk hk2, List.drop_eq_getElem_cons hlt, List.drop_eq_getElem_cons hlt2]
    ((repeat ((conv => whnf); first | refine brT ?_ | refine brF ?_)); conv => whnf)
    refine ⟨true, by kernel_rfl, ?_⟩
    ((repeat ((conv => whnf); first | refine brT ?_ | refine brF ?_)); conv => whnf)
    refine ⟨k, ps[k].lv, rfl, by simp [hlt], rfl, ?_⟩
    ((repeat ((conv => whnf); first | refine brT ?_ | refine brF ?_)); conv => whnf)
    refine ⟨k, qs[k].lv, rfl, by simp [hlt2], rfl, ?_⟩
    ((repeat ((conv => whnf); first | refine brT ?_ | refine brF ?_)); conv => whnf)
    (refine ⟨fun h2 => ?_, fun h2 => ?_⟩ <;> rw [h2])
    · rw [notB_t] at h2
      ((repeat ((conv => whnf); first | refine brT ?_ | refine brF ?_)); conv => whnf)
      refine ⟨true, by kernel_rfl, ?_⟩
      ((repeat ((conv => whnf); first | refine brT ?_ | refine brF ?_)); conv => whnf)
      refine ⟨k, ps[k].lv, rfl, by simp [hlt], rfl, ?_⟩
      ((repeat ((conv => whnf); first | refine brT ?_ | refine brF ?_)); conv => whnf)
      refine ⟨k, qs[k].lv, rfl, by simp [hlt2], rfl, ?_⟩
      ((repeat ((conv => whnf); first | refine brT ?_ | refine brF ?_)); conv => whnf)
      exact fin (by rw [e1]; simp only [befL, h2])
    rw [notB_f] at h2
    ((repeat ((conv => whnf); first | refine brT ?_ | refine brF ?_)); conv => whnf)
    refine ⟨true, by kernel_rfl, ?_⟩
    ((repeat ((conv => whnf); first | refine brT ?_ | refine brF ?_)); conv => whnf)
    refine ⟨k, ps[k].lv, rfl, by simp [hlt], rfl, ?_⟩
    ((repeat ((conv => whnf); first | refine brT ?_ | refine brF ?_)); conv => whnf)
    refine ⟨k, qs[k].lv, rfl, by simp [hlt2], rfl, ?_⟩
    ((repeat ((conv => whnf); first | refine brT ?_ | refine brF ?_)); conv => whnf)
    (refine ⟨fun h3 => ?_, fun h3 => ?_⟩ <;> rw [h3])
    · rw [notB_t] at h3
      ((repeat ((conv => whnf); first | refine brT ?_ | refine brF ?_)); conv => whnf)
      refine ⟨true, by kernel_rfl, ?_⟩
      ((repeat ((conv => whnf); first | refine brT ?_ | refine brF ?_)); conv => whnf)
      refine ⟨k, ps[k].lv, rfl, by simp [hlt], rfl, ?_⟩
      ((repeat ((conv => whnf); first | refine brT ?_ | refine brF ?_)); conv => whnf)
      refine ⟨k, qs[k].lv, rfl, by simp [hlt2], rfl, ?_⟩
      ((repeat ((conv => whnf); first | refine brT ?_ | refine brF ?_)); conv => whnf)
      exact fin (by rw [e1]; simp only [befL, h2, h3])
    rw [notB_f] at h3
    ((repeat ((conv => whnf); first | refine brT ?_ | refine brF ?_)); conv => whnf)
    refine round_end (k + 1) ⟨hlt, fun j x y hj hx hy => ?_⟩ (by omega) ⟨?_, trivial, rfl, rfl⟩
    · by_cases e : j = k
      · subst e; rw [List.getElem?_eq_getElem hlt] at hx; rw [List.getElem?_eq_getElem hlt2] at hy; cases hx; cases hy; exact ⟨h2, h3⟩
      · exact hz j x y (by omega) hx hy
    have e := step_i hlt hm
    ((repeat ((conv => whnf); first | refine ⟨e, ?_⟩ | refine ⟨rfl, ?_⟩)); trivial)
  · have h4 : k = ps.length := by rw [ltI_f] at h1; omega
    subst h4
    ((repeat ((conv => whnf); first | refine brT ?_ | refine brF ?_)); conv => whnf)
    refine fin ?_
    unfold befP; rw [h]; simp only
    rw [← befL_drop hz hk hk2, List.drop_eq_nil_of_le (Nat.le_refl _)]
    simp only [befL]
theorem cmpI_neg (a b : Int) : ltI (cmpI a b) 0 = ltI a b := by
  unfold cmpI
  cases h : ltI a b <;> simp only
  · cases h2 : ltI b a <;> simp only <;> rw [ltI_f] <;> omega
  · rw [ltI_t]; omega
theorem cmpI_zero (a b : Int) : eqI (cmpI a b) 0 = eqI a b := by
  unfold cmpI
  cases h : ltI a b <;> simp only
  · rw [ltI_f] at h
    cases h2 : ltI b a <;> simp only
    · rw [ltI_f] at h2; rw [eqI_refl, eq_comm, eqI_t]; omega
    · rw [ltI_t] at h2
      rw [show eqI 1 0 = false by rw [eqI_f]; omega, eq_comm, eqI_f]; omega
  · rw [ltI_t] at h
    rw [show eqI (-1) 0 = false by rw [eqI_f]; omega, eq_comm, eqI_f]; omega
theorem cmpS_zero (p q : Pr) : eqI (cmpS p q) 0 = (eqI p.a q.a && eqI p.b q.b) := by
  unfold cmpS
  simp only [orL, cmpI_zero]
  cases h1 : eqI p.a q.a <;> simp only [Bool.false_and, Bool.true_and]
  · rw [cmpI_zero, h1]
  · cases h2 : eqI p.b q.b <;> simp only [eqI_refl]
    rw [cmpI_zero, h2]
theorem cmpS_neg (p q : Pr) : ltI (cmpS p q) 0 = (match eqI p.a q.a with | true => ltI p.b q.b | false => ltI p.a q.a) := by
  unfold cmpS
  simp only [orL, cmpI_zero]
  cases h1 : eqI p.a q.a <;> simp only
  · rw [cmpI_neg]
  · cases h2 : eqI p.b q.b <;> simp only
    · rw [cmpI_neg]
    · rw [eqI_t] at h2
      rw [show ltI 0 0 = false by rw [ltI_f]; omega, eq_comm, ltI_f]; omega
theorem cmpFL_neg : ∀ (a b : List Pr), a.length = b.length → ltI (cmpFL a b) 0 = befL a b
  | [], [], _ => by simp only [cmpFL, befL]; rw [ltI_f]; omega
  | [], _ :: _, h => by simp at h
  | _ :: _, [], h => by simp at h
  | p :: ps, q :: qs, h => by
    simp only [cmpFL, befL, cmpS_zero]
    have ih := cmpFL_neg ps qs (by simpa using h)
    cases h1 : eqI p.a q.a <;> simp only [Bool.false_and, Bool.true_and]
    · rw [cmpS_neg, h1]
    · cases h2 : eqI p.b q.b <;> simp only
      · rw [cmpS_neg, h1]
      · exact ih
theorem cmpPt_neg (a b : List Pr) : ltI (cmpPt a b) 0 = befP a b := by
  unfold cmpPt befP
  simp only [orL, cmpI_zero]
  cases h : eqI (a.length : Int) b.length <;> simp only
  · rw [cmpI_neg]
  · have hl : a.length = b.length := by rw [eqI_t] at h; omega
    rw [← cmpFL_neg a b hl]
    cases h2 : eqI (cmpFL a b) 0 <;> simp only
    rw [eqI_t] at h2
    rw [h2]
end Go.Proofs.Ytpfipmjmblgjfaa

namespace Go.Proofs.Ytpfipmjmblgjfaa
open Go.Lg
set_option maxHeartbeats 1600000
set_option maxRecDepth 10000
set_option linter.unusedVariables false
set_option linter.unusedSimpArgs false

theorem Weak.idn {n0 : Nat} {ts : List LV} {H : List Blk} (h1 : wk ts ts) (h2 : wkH n0 H H) (h3 : (scs (below H.length) ts && H.all (scB (below H.length))) = true) : Weak n0 ts H ts H := by
  simp only [Bool.and_eq_true] at h3
  exact .inl ⟨h1, h2, h3.1, h3.2⟩

theorem isPlace_spec (x : Int) : FSpec env.P 194 [.int .i64 x] (.bool (eqI x 0 || eqI x 1 || eqI x 2)) := by
  refine FSpec_of_code env_ok (fn := Try.f194) Try.func194 rfl Try.call194 _ _ ?_
  ((repeat' (((repeat ((conv => whnf); first | refine brT ?_ | refine brF ?_)); conv => whnf); (refine And.intro ?_ ?_ <;> (intro h; rw [h]; revert h; intro _)))); all_goals ((repeat ((conv => whnf); first | refine brT ?_ | refine brF ?_)); conv => whnf))
  all_goals (refine fin ?_; simp_all)
/-- With this sex, the rule's parts go together. -/
def okS (fr to : List Pr) (s : Int) : Bool := !typB s fr || (typB s to && eqI (lastT s fr) (lastT s to))
theorem okS_1 {fr to : List Pr} {s : Int} (h : typB s fr = false) : okS fr to s = true := by unfold okS; rw [h]; rfl
theorem okS_2 {fr to : List Pr} {s : Int} (h : typB s fr = true) (h1 : typB s to = false) : okS fr to s = false := by unfold okS; rw [h, h1]; rfl
theorem okS_3 {fr to : List Pr} {s : Int} {b : Bool} (h : typB s fr = true) (h1 : typB s to = true) (h2 : eqI (sexR s fr) (sexR s to) = b) : okS fr to s = b := by
  unfold okS; unfold sexR at h2; rw [h, h1] at *; simpa using h2
def sexL (x : Int) : List Int := match eqI x 0 with | true => [1, 2] | false => [x]
def keepB (x : Int) (fr to : List Pr) : Bool := (sexL x).all (okS fr to) && (sexL x).any fun s => typB s fr

theorem all_take_succ {f : Int → Bool} {L : List Int} {k : Nat} (hk : k < L.length) (h : (L.take k).all f = true) (h1 : f L[k] = true) : (L.take (k + 1)).all f = true := by
  rw [List.take_succ_eq_append_getElem hk, List.all_append, h]; simp [h1]
theorem any_take_succ {f : Int → Bool} {L : List Int} {k : Nat} (hk : k < L.length) : (L.take (k + 1)).any f = ((L.take k).any f || f L[k]) := by
  rw [List.take_succ_eq_append_getElem hk, List.any_append]; simp
theorem all_no {f : Int → Bool} {L : List Int} {k : Nat} (hk : k < L.length) (h1 : f L[k] = false) : L.all f = false := by
  rw [List.all_eq_false]
  exact ⟨L[k], List.getElem_mem hk, by simp [h1]⟩
theorem keepsSexes_spec (r : Rul) : FSpec env.P 196 [r.lv] (.bool (keepB r.sex r.fr r.to)) := by
  refine FSpec_of_code env_ok (fn := Try.f196) Try.func196 rfl Try.call196 _ _ ?_
  ((repeat ((conv => whnf); first | refine brT ?_ | refine brF ?_)); conv => whnf)
  (refine ⟨fun h0 => ?_, fun h0 => ?_⟩ <;> rw [h0])
  · have hL : sexL r.sex = [1, 2] := by unfold sexL; rw [h0]
    generalize hg : ([1, 2] : List Int) = L at hL
    have hl : L.length = 2 := by rw [← hg]; rfl
    ((repeat ((conv => whnf); first | refine brT ?_ | refine brF ?_)); conv => whnf)
    refine ⟨rfl, ?_⟩
    ((repeat ((conv => whnf); first | refine brT ?_ | refine brF ?_)); conv => whnf)
    intro _
    ((repeat ((conv => whnf); first | refine brT ?_ | refine brF ?_)); conv => whnf)
    refine loop_rule (α := Nat) (fun k => [(18, .int .i64 (k : Int)), (4, .bool ((L.take k).any fun s => typB s r.fr))]) (fun _ => [.box r.lv, .arr 3 1 [.int .i64 r.sex], .arr 3 1 (L.map fun x => .int .i64 x)]) (fun k => 2 - k)
      (fun k => k ≤ 2 ∧ (L.take k).all (okS r.fr r.to) = true) 0 ⟨Nat.zero_le _, rfl⟩ ?_ ?_
    · subst hg
      refine ⟨?_, ?_, rfl, rfl⟩
      · ((repeat ((conv => whnf); refine ⟨rfl, ?_⟩)); trivial)
      · ((repeat ((conv => whnf); refine ⟨rfl, ?_⟩)); trivial)
    rintro k ⟨hk, hz⟩
    ((repeat ((conv => whnf); first | refine brT ?_ | refine brF ?_)); conv => whnf)
    (refine ⟨fun h1 => ?_, fun h1 => ?_⟩ <;> rw [h1])
    · have hlt : k < 2 := by rw [ltI_t] at h1; simp at h1; omega
      have hlt2 : k < L.length := by omega
      ((repeat ((conv => whnf); first | refine brT ?_ | refine brF ?_)); conv => whnf)
      refine ⟨by simp [hl], rfl, k, rfl, by simp [hl]; omega, ?_⟩
      ((repeat ((conv => whnf); first | refine brT ?_ | refine brF ?_)); conv => whnf)
      refine ⟨by simp [hl], by simp, .int .i64 L[k], by simp [getP, hlt2], rfl, ?_⟩
      ((repeat ((conv => whnf); first | refine brT ?_ | refine brF ?_)); conv => whnf)
      refine ⟨false, 0, 0, 0, [0, 1, 2, 3, 4, 5, 6, 7], (.alt 8 (.one 9 (.one 10 (.one 11 .done))) (.one 9 (.one 8 (.one 10 (.one 11 .done))))), by kernel_rfl, ?_⟩
      ((repeat ((conv => whnf); first | refine brT ?_ | refine brF ?_)); conv => whnf)
      apply Exists.intro
      apply Exists.intro
      refine And.intro ?_ ?_
      · refine ⟨?_, ?_⟩
        · ((repeat ((conv => whnf); first | refine brT ?_ | refine brF ?_)); conv => whnf)
          refine Weak.idn ?_ ?_ rfl
          · ((repeat ((conv => whnf); refine ⟨rfl, ?_⟩)); trivial)
          · exact ⟨rfl, rfl, rfl, rfl, rfl, trivial⟩
        · ((repeat ((conv => whnf); first | refine brT ?_ | refine brF ?_)); conv => whnf)
          refine .inr ⟨[.old 0, .old 1, .old 2, .old 4, .old 3], ?_, ⟨rfl, rfl, rfl, rfl, rfl, rfl, rfl, rfl, rfl, rfl, trivial⟩, rfl⟩
          ((repeat ((conv => whnf); refine ⟨rfl, rfl, ?_⟩)); trivial)
      ((repeat ((conv => whnf); first | refine brT ?_ | refine brF ?_)); conv => whnf)
      refine ⟨_, isType_impl L[k] r.fr, ?_⟩
      ((repeat ((conv => whnf); first | refine brT ?_ | refine brF ?_)); conv => whnf)
      have e := step_i hlt (show 2 ≤ Go.maxLen by decide)
      (refine ⟨fun h2 => ?_, fun h2 => ?_⟩ <;> rw [h2])
      · rw [notB_t] at h2
        ((repeat ((conv => whnf); first | refine brT ?_ | refine brF ?_)); conv => whnf)
        refine round_end (k + 1) ⟨hlt, all_take_succ hlt2 hz (okS_1 h2)⟩ (by omega) ⟨?_, ⟨rfl, rfl, rfl, trivial⟩, rfl, rfl⟩
        have e2 : LV.bool ((L.take k).any fun s => typB s r.fr) = LV.bool ((L.take (k + 1)).any fun s => typB s r.fr) := by rw [any_take_succ hlt2, h2, Bool.or_false]
        (repeat ((conv => whnf); first | refine ⟨e, ?_⟩ | refine ⟨e2, ?_⟩ | refine ⟨rfl, ?_⟩))
        trivial
      rw [notB_f] at h2
      ((repeat ((conv => whnf); first | refine brT ?_ | refine brF ?_)); conv => whnf)
      refine ⟨true, by kernel_rfl, ?_⟩
      ((repeat ((conv => whnf); first | refine brT ?_ | refine brF ?_)); conv => whnf)
      refine ⟨_, isType_impl L[k] r.to, ?_⟩
      ((repeat ((conv => whnf); first | refine brT ?_ | refine brF ?_)); conv => whnf)
      (refine ⟨fun h3 => ?_, fun h3 => ?_⟩ <;> rw [h3])
      · rw [notB_t] at h3
        ((repeat ((conv => whnf); first | refine brT ?_ | refine brF ?_)); conv => whnf)
        exact fin (by unfold keepB; rw [hL, all_no hlt2 (okS_2 h2 h3)]; rfl)
      rw [notB_f] at h3
      ((repeat ((conv => whnf); first | refine brT ?_ | refine brF ?_)); conv => whnf)
      refine ⟨_, sexOfType_impl L[k] r.fr, ?_⟩
      ((repeat ((conv => whnf); first | refine brT ?_ | refine brF ?_)); conv => whnf)
      refine ⟨_, sexOfType_impl L[k] r.to, ?_⟩
      ((repeat ((conv => whnf); first | refine brT ?_ | refine brF ?_)); conv => whnf)
      (refine ⟨fun h4 => ?_, fun h4 => ?_⟩ <;> rw [h4])
      · rw [notB_t] at h4
        ((repeat ((conv => whnf); first | refine brT ?_ | refine brF ?_)); conv => whnf)
        exact fin (by unfold keepB; rw [hL, all_no hlt2 (okS_3 h2 h3 h4)]; rfl)
      rw [notB_f] at h4
      ((repeat ((conv => whnf); first | refine brT ?_ | refine brF ?_)); conv => whnf)
      refine round_end (k + 1) ⟨hlt, all_take_succ hlt2 hz (okS_3 h2 h3 h4)⟩ (by omega) ⟨?_, ⟨rfl, rfl, rfl, trivial⟩, rfl, rfl⟩
      have e2 : LV.bool true = LV.bool ((L.take (k + 1)).any fun s => typB s r.fr) := by rw [any_take_succ hlt2, h2, Bool.or_true]
      (repeat ((conv => whnf); first | refine ⟨e, ?_⟩ | refine ⟨e2, ?_⟩ | refine ⟨rfl, ?_⟩))
      trivial
    · have h5 : k = 2 := by rw [ltI_f] at h1; simp at h1; omega
      subst h5
      ((repeat ((conv => whnf); first | refine brT ?_ | refine brF ?_)); conv => whnf)
      refine fin ?_
      rw [List.take_of_length_le (by omega)] at hz ⊢
      unfold keepB
      rw [hL, hz, Bool.true_and]
  · have hL : sexL r.sex = [r.sex] := by unfold sexL; rw [h0]
    generalize hg : ([r.sex] : List Int) = L at hL
    have hl : L.length = 1 := by rw [← hg]; rfl
    ((repeat ((conv => whnf); first | refine brT ?_ | refine brF ?_)); conv => whnf)
    refine ⟨rfl, ?_⟩
    ((repeat ((conv => whnf); first | refine brT ?_ | refine brF ?_)); conv => whnf)
    intro _
    ((repeat ((conv => whnf); first | refine brT ?_ | refine brF ?_)); conv => whnf)
    refine loop_rule (α := Nat) (fun k => [(18, .int .i64 (k : Int)), (4, .bool ((L.take k).any fun s => typB s r.fr))]) (fun _ => [.box r.lv, .arr 3 1 (L.map fun x => .int .i64 x)]) (fun k => 1 - k)
      (fun k => k ≤ 1 ∧ (L.take k).all (okS r.fr r.to) = true) 0 ⟨Nat.zero_le _, rfl⟩ ?_ ?_
    · subst hg
      refine ⟨?_, ?_, rfl, rfl⟩
      · ((repeat ((conv => whnf); refine ⟨rfl, ?_⟩)); trivial)
      · ((repeat ((conv => whnf); refine ⟨rfl, ?_⟩)); trivial)
    rintro k ⟨hk, hz⟩
    ((repeat ((conv => whnf); first | refine brT ?_ | refine brF ?_)); conv => whnf)
    (refine ⟨fun h1 => ?_, fun h1 => ?_⟩ <;> rw [h1])
    · have hlt : k < 1 := by rw [ltI_t] at h1; simp at h1; omega
      have hlt2 : k < L.length := by omega
      ((repeat ((conv => whnf); first | refine brT ?_ | refine brF ?_)); conv => whnf)
      refine ⟨by simp [hl], rfl, k, rfl, by simp [hl]; omega, ?_⟩
      ((repeat ((conv => whnf); first | refine brT ?_ | refine brF ?_)); conv => whnf)
      refine ⟨by simp [hl], by simp, .int .i64 L[k], by simp [getP, hlt2], rfl, ?_⟩
      ((repeat ((conv => whnf); first | refine brT ?_ | refine brF ?_)); conv => whnf)
      refine ⟨false, 0, 0, 0, [0, 1, 2, 3, 4, 5, 6, 7], (.alt 8 (.one 9 (.one 10 (.one 11 .done))) (.one 9 (.one 8 (.one 10 (.one 11 .done))))), by kernel_rfl, ?_⟩
      ((repeat ((conv => whnf); first | refine brT ?_ | refine brF ?_)); conv => whnf)
      apply Exists.intro
      apply Exists.intro
      refine And.intro ?_ ?_
      · refine ⟨?_, ?_⟩
        · ((repeat ((conv => whnf); first | refine brT ?_ | refine brF ?_)); conv => whnf)
          refine Weak.idn ?_ ?_ rfl
          · ((repeat ((conv => whnf); refine ⟨rfl, ?_⟩)); trivial)
          · exact ⟨rfl, rfl, rfl, rfl, trivial⟩
        · ((repeat ((conv => whnf); first | refine brT ?_ | refine brF ?_)); conv => whnf)
          refine .inr ⟨[.old 0, .old 1, .old 3, .old 2], ?_, ⟨rfl, rfl, rfl, rfl, rfl, rfl, rfl, rfl, trivial⟩, rfl⟩
          ((repeat ((conv => whnf); refine ⟨rfl, rfl, ?_⟩)); trivial)
      ((repeat ((conv => whnf); first | refine brT ?_ | refine brF ?_)); conv => whnf)
      refine ⟨_, isType_impl L[k] r.fr, ?_⟩
      ((repeat ((conv => whnf); first | refine brT ?_ | refine brF ?_)); conv => whnf)
      have e := step_i hlt (show 1 ≤ Go.maxLen by decide)
      (refine ⟨fun h2 => ?_, fun h2 => ?_⟩ <;> rw [h2])
      · rw [notB_t] at h2
        ((repeat ((conv => whnf); first | refine brT ?_ | refine brF ?_)); conv => whnf)
        refine round_end (k + 1) ⟨hlt, all_take_succ hlt2 hz (okS_1 h2)⟩ (by omega) ⟨?_, ⟨rfl, rfl, trivial⟩, rfl, rfl⟩
        have e2 : LV.bool ((L.take k).any fun s => typB s r.fr) = LV.bool ((L.take (k + 1)).any fun s => typB s r.fr) := by rw [any_take_succ hlt2, h2, Bool.or_false]
        (repeat ((conv => whnf); first | refine ⟨e, ?_⟩ | refine ⟨e2, ?_⟩ | refine ⟨rfl, ?_⟩))
        trivial
      rw [notB_f] at h2
      ((repeat ((conv => whnf); first | refine brT ?_ | refine brF ?_)); conv => whnf)
      refine ⟨true, by kernel_rfl, ?_⟩
      ((repeat ((conv => whnf); first | refine brT ?_ | refine brF ?_)); conv => whnf)
      refine ⟨_, isType_impl L[k] r.to, ?_⟩
      ((repeat ((conv => whnf); first | refine brT ?_ | refine brF ?_)); conv => whnf)
      (refine ⟨fun h3 => ?_, fun h3 => ?_⟩ <;> rw [h3])
      · rw [notB_t] at h3
        ((repeat ((conv => whnf); first | refine brT ?_ | refine brF ?_)); conv => whnf)
        exact fin (by unfold keepB; rw [hL, all_no hlt2 (okS_2 h2 h3)]; rfl)
      rw [notB_f] at h3
      ((repeat ((conv => whnf); first | refine brT ?_ | refine brF ?_)); conv => whnf)
      refine ⟨_, sexOfType_impl L[k] r.fr, ?_⟩
      ((repeat ((conv => whnf); first | refine brT ?_ | refine brF ?_)); conv => whnf)
      refine ⟨_, sexOfType_impl L[k] r.to, ?_⟩
      ((repeat ((conv => whnf); first | refine brT ?_ | refine brF ?_)); conv => whnf)
      (refine ⟨fun h4 => ?_, fun h4 => ?_⟩ <;> rw [h4])
      · rw [notB_t] at h4
        ((repeat ((conv => whnf); first | refine brT ?_ | refine brF ?_)); conv => whnf)
        exact fin (by unfold keepB; rw [hL, all_no hlt2 (okS_3 h2 h3 h4)]; rfl)
      rw [notB_f] at h4
      ((repeat ((conv => whnf); first | refine brT ?_ | refine brF ?_)); conv => whnf)
      refine round_end (k + 1) ⟨hlt, all_take_succ hlt2 hz (okS_3 h2 h3 h4)⟩ (by omega) ⟨?_, ⟨rfl, rfl, trivial⟩, rfl, rfl⟩
      have e2 : LV.bool true = LV.bool ((L.take (k + 1)).any fun s => typB s r.fr) := by rw [any_take_succ hlt2, h2, Bool.or_true]
      (repeat ((conv => whnf); first | refine ⟨e, ?_⟩ | refine ⟨e2, ?_⟩ | refine ⟨rfl, ?_⟩))
      trivial
    · have h5 : k = 1 := by rw [ltI_f] at h1; simp at h1; omega
      subst h5
      ((repeat ((conv => whnf); first | refine brT ?_ | refine brF ?_)); conv => whnf)
      refine fin ?_
      rw [List.take_of_length_le (by omega)] at hz ⊢
      unfold keepB
      rw [hL, hz, Bool.true_and]
end Go.Proofs.Ytpfipmjmblgjfaa
