/- Contracts of functions of the program and of its model, told over readings. -/
import Derived.Test.YtdhmnojnkgmmnaaGreatAWGA
import Derived.Test.YtdhmnojnkgmmnaaGreatAWGC
import Derived.Test.YtdhmnojnkgmmnaaGreatAWGB
namespace Go.Proofs.YtdhmnojnkgmmnaaGreat
open Go.Lg
set_option maxHeartbeats 400000
set_option maxRecDepth 10000
set_option linter.unusedVariables false
set_option linter.unusedSimpArgs false

/-- impl.isPersonAfter -/
def personOk (ps : List Per) (p : Per) : Bool := match findFrom p.name 0 ps with
  | some _ => false
  | none => isName p.name && ((eqI p.sex 1 || eqI p.sex 2) && ((leI 0 p.born && (leI p.born 9999 && endYear p.died p.born)) &&
      (parentOk ps p.father 1 p.born && parentOk ps p.mother 2 p.born)))
theorem isPersonAfter_spec (ps : List Per) (p : Per) : FSpec env.P 115 [.sl (ps.map Per.lv), p.lv] (.bool (personOk ps p)) := by
  refine FSpec_of_code env_ok (fn := Tryz.f115) Tryz.func115 rfl Tryz.call115 _ _ ?_
  ((repeat ((conv => whnf); first | refine brT ?_ | refine brF ?_)); conv => whnf)
  refine ⟨_, indexOfName_spec ps p.name, ?_⟩
  cases hf : findFrom p.name 0 ps with
  | some i =>
    ((repeat ((conv => whnf); first | refine brT ?_ | refine brF ?_)); conv => whnf)
    refine fin ?_
    simp [personOk, hf]
  | none =>
    ((repeat ((conv => whnf); first | refine brT ?_ | refine brF ?_)); conv => whnf)
    refine ⟨_, isNameImpl_spec p.name, ?_⟩
    ((repeat ((conv => whnf); first | refine brT ?_ | refine brF ?_)); conv => whnf)
    refine ⟨fun h => ?_, fun h => ?_⟩ <;> rw [h]
    · ((repeat ((conv => whnf); first | refine brT ?_ | refine brF ?_)); conv => whnf); refine fin ?_; rw [notB_t] at h; simp [personOk, hf, h]
    rw [notB_f] at h
    ((repeat ((conv => whnf); first | refine brT ?_ | refine brF ?_)); conv => whnf)
    refine ⟨fun h1 => ?_, fun h1 => ?_⟩ <;> rw [h1]
    · rw [notB_t] at h1
      ((repeat ((conv => whnf); first | refine brT ?_ | refine brF ?_)); conv => whnf)
      refine ⟨fun h2 => ?_, fun h2 => ?_⟩ <;> rw [h2]
      · ((repeat ((conv => whnf); first | refine brT ?_ | refine brF ?_)); conv => whnf); refine fin ?_; rw [notB_t] at h2; simp [personOk, hf, h1, h2]
      rw [notB_f] at h2
      have hs : (eqI p.sex 1 || eqI p.sex 2) = true := by simp [h2]
      ((repeat ((conv => whnf); first | refine brT ?_ | refine brF ?_)); conv => whnf)
      refine ⟨fun b1 => ?_, fun b1 => ?_⟩ <;> rw [b1]
      · ((repeat ((conv => whnf); first | refine brT ?_ | refine brF ?_)); conv => whnf); refine fin ?_; have c1 : leI 0 p.born = false := by rw [leI_f]; rw [ltI_t] at b1; exact b1
        simp [personOk, hf, c1]
      have c1 : leI 0 p.born = true := by rw [leI_t]; rw [ltI_f] at b1; exact b1
      ((repeat ((conv => whnf); first | refine brT ?_ | refine brF ?_)); conv => whnf)
      refine ⟨fun b2 => ?_, fun b2 => ?_⟩ <;> rw [b2]
      · ((repeat ((conv => whnf); first | refine brT ?_ | refine brF ?_)); conv => whnf); refine fin ?_; have c2 : leI p.born 9999 = false := by rw [leI_f]; rw [ltI_t] at b2; exact b2
        simp [personOk, hf, c2]
      have c2 : leI p.born 9999 = true := by rw [leI_t]; rw [ltI_f] at b2; exact b2
      ((repeat ((conv => whnf); first | refine brT ?_ | refine brF ?_)); conv => whnf)
      refine ⟨_, isEndYear_spec _ _, ?_⟩
      ((repeat ((conv => whnf); first | refine brT ?_ | refine brF ?_)); conv => whnf)
      refine ⟨fun b3 => ?_, fun b3 => ?_⟩ <;> rw [b3]
      · ((repeat ((conv => whnf); first | refine brT ?_ | refine brF ?_)); conv => whnf); refine fin ?_; rw [notB_t] at b3; simp [personOk, hf, b3]
      rw [notB_f] at b3
      ((repeat ((conv => whnf); first | refine brT ?_ | refine brF ?_)); conv => whnf)
      refine ⟨_, isParentOf_spec ps _ _ _, ?_⟩
      ((repeat ((conv => whnf); first | refine brT ?_ | refine brF ?_)); conv => whnf)
      refine ⟨fun b4 => ?_, fun b4 => ?_⟩ <;> rw [b4]
      · ((repeat ((conv => whnf); first | refine brT ?_ | refine brF ?_)); conv => whnf)
        refine ⟨_, isParentOf_spec ps _ _ _, ?_⟩
        ((repeat ((conv => whnf); first | refine brT ?_ | refine brF ?_)); conv => whnf); refine fin ?_; simp [personOk, hf, h, hs, c1, c2, b3, b4]
      · ((repeat ((conv => whnf); first | refine brT ?_ | refine brF ?_)); conv => whnf); refine fin ?_; simp [personOk, hf, b4]
    · rw [notB_f] at h1
      have hs : (eqI p.sex 1 || eqI p.sex 2) = true := by simp [h1]
      ((repeat ((conv => whnf); first | refine brT ?_ | refine brF ?_)); conv => whnf)
      refine ⟨fun b1 => ?_, fun b1 => ?_⟩ <;> rw [b1]
      · ((repeat ((conv => whnf); first | refine brT ?_ | refine brF ?_)); conv => whnf); refine fin ?_; have c1 : leI 0 p.born = false := by rw [leI_f]; rw [ltI_t] at b1; exact b1
        simp [personOk, hf, c1]
      have c1 : leI 0 p.born = true := by rw [leI_t]; rw [ltI_f] at b1; exact b1
      ((repeat ((conv => whnf); first | refine brT ?_ | refine brF ?_)); conv => whnf)
      refine ⟨fun b2 => ?_, fun b2 => ?_⟩ <;> rw [b2]
      · ((repeat ((conv => whnf); first | refine brT ?_ | refine brF ?_)); conv => whnf); refine fin ?_; have c2 : leI p.born 9999 = false := by rw [leI_f]; rw [ltI_t] at b2; exact b2
        simp [personOk, hf, c2]
      have c2 : leI p.born 9999 = true := by rw [leI_t]; rw [ltI_f] at b2; exact b2
      ((repeat ((conv => whnf); first | refine brT ?_ | refine brF ?_)); conv => whnf)
      refine ⟨_, isEndYear_spec _ _, ?_⟩
      ((repeat ((conv => whnf); first | refine brT ?_ | refine brF ?_)); conv => whnf)
      refine ⟨fun b3 => ?_, fun b3 => ?_⟩ <;> rw [b3]
      · ((repeat ((conv => whnf); first | refine brT ?_ | refine brF ?_)); conv => whnf); refine fin ?_; rw [notB_t] at b3; simp [personOk, hf, b3]
      rw [notB_f] at b3
      ((repeat ((conv => whnf); first | refine brT ?_ | refine brF ?_)); conv => whnf)
      refine ⟨_, isParentOf_spec ps _ _ _, ?_⟩
      ((repeat ((conv => whnf); first | refine brT ?_ | refine brF ?_)); conv => whnf)
      refine ⟨fun b4 => ?_, fun b4 => ?_⟩ <;> rw [b4]
      · ((repeat ((conv => whnf); first | refine brT ?_ | refine brF ?_)); conv => whnf)
        refine ⟨_, isParentOf_spec ps _ _ _, ?_⟩
        ((repeat ((conv => whnf); first | refine brT ?_ | refine brF ?_)); conv => whnf); refine fin ?_; simp [personOk, hf, h, hs, c1, c2, b3, b4]
      · ((repeat ((conv => whnf); first | refine brT ?_ | refine brF ?_)); conv => whnf); refine fin ?_; simp [personOk, hf, b4]
end Go.Proofs.YtdhmnojnkgmmnaaGreat


namespace Go.Proofs.YtdhmnojnkgmmnaaGreat
open Go.Lg
set_option maxHeartbeats 800000
set_option maxRecDepth 10000
set_option linter.unusedVariables false
set_option linter.unusedSimpArgs false

def personsTo (ps : List Per) (k : Nat) : Bool := (List.range k).all fun i => match ps[i]? with | some p => personOk (ps.take i) p | none => true
def unionsTo (ps : List Per) (us : List Uni) (k : Nat) : Bool := (List.range k).all fun i => match us[i]? with | some u => unionOk ps (us.take i) u | none => true
def shallow (ds : List Int) : Bool := ds.all fun d => leI d 10
def famOk (ps : List Per) (us : List Uni) : Bool := decide (ps.length ≤ 40) && (decide (us.length ≤ 60) && (personsTo ps ps.length && (unionsTo ps us us.length && shallow (depths ps))))

theorem personsTo_succ {ps : List Per} {k : Nat} (h : k < ps.length) : personsTo ps (k + 1) = (personsTo ps k && personOk (ps.take k) ps[k]) := by
  unfold personsTo
  rw [List.range_succ, List.all_append]
  simp [h]
theorem personsTo_no {ps : List Per} {i k : Nat} (hi : i < k) (h : i < ps.length) (e : personOk (ps.take i) ps[i] = false) : personsTo ps k = false := by
  unfold personsTo
  rw [List.all_eq_false]
  exact ⟨i, List.mem_range.2 hi, by simp [h, e]⟩
theorem unionsTo_succ {ps : List Per} {us : List Uni} {k : Nat} (h : k < us.length) : unionsTo ps us (k + 1) = (unionsTo ps us k && unionOk ps (us.take k) us[k]) := by
  unfold unionsTo
  rw [List.range_succ, List.all_append]
  simp [h]
theorem unionsTo_no {ps : List Per} {us : List Uni} {i k : Nat} (hi : i < k) (h : i < us.length) (e : unionOk ps (us.take i) us[i] = false) : unionsTo ps us k = false := by
  unfold unionsTo
  rw [List.all_eq_false]
  exact ⟨i, List.mem_range.2 hi, by simp [h, e]⟩
theorem personsTo_get {ps : List Per} {k : Nat} (h : personsTo ps k = true) {i : Nat} (hi : i < k) (hl : i < ps.length) : personOk (ps.take i) ps[i] = true := by
  cases e : personOk (ps.take i) ps[i] with
  | true => rfl
  | false => rw [personsTo_no hi hl e] at h; cases h

theorem personOk_spec {ps : List Per} {p : Per} (h : personOk ps p = true) : findFrom p.name 0 ps = none ∧ isName p.name = true ∧ (p.sex = 1 ∨ p.sex = 2) ∧ 0 ≤ p.born ∧ p.born ≤ 9999 ∧ (p.died = -1 ∨ (p.born ≤ p.died ∧ p.died ≤ 9999)) ∧
    parentOk ps p.father 1 p.born = true ∧ parentOk ps p.mother 2 p.born = true := by
  unfold personOk at h
  split at h
  · cases h
  · rename_i hf
    simp only [endYear, Bool.and_eq_true, Bool.or_eq_true, leI_t, eqI_t] at h
    grind
theorem parentOk_in {ps : List Per} {x s b : Int} (h : parentOk ps x s b = true) : parIn x ps.length := by
  unfold parentOk at h
  simp only [Bool.or_eq_true, eqI_t, Bool.and_eq_true, leI_t] at h
  rcases h with h | ⟨h0, h1⟩
  · exact .inl h
  · split at h1
    · cases h1
    · rename_i q hq
      have := lt_of_get hq
      exact .inr ⟨h0, by omega⟩
theorem parsIn_of {ps : List Per} (h : personsTo ps ps.length = true) : parsIn ps := by
  intro i hi
  obtain ⟨_, _, _, _, _, _, h1, h2⟩ := personOk_spec (personsTo_get h hi hi)
  have e : (ps.take i).length = i := by simp; omega
  have a := parentOk_in h1
  have b := parentOk_in h2
  rw [e] at a b
  exact ⟨a, b⟩

theorem shallow_succ {ds : List Int} {k : Nat} (h : k < ds.length) : shallow (ds.take (k + 1)) = (shallow (ds.take k) && leI ds[k] 10) := by
  unfold shallow
  rw [List.take_succ_eq_append_getElem h, List.all_append]
  simp
theorem shallow_no {ds : List Int} {k : Nat} (h : k < ds.length) (e : ltI 10 ds[k] = true) : shallow ds = false := by
  unfold shallow
  rw [List.all_eq_false]
  refine ⟨ds[k], List.getElem_mem h, ?_⟩
  rw [ltI_t] at e
  rw [Bool.not_eq_true, leI_f]; omega
theorem shallow_le {a : Int} (h : ltI 10 a = false) : leI a 10 = true := by rw [leI_t]; rw [ltI_f] at h; omega

theorem isPersonAfter_take (ps : List Per) (k : Nat) (p : Per) : FSpec env.P 115 [.sl (((ps.map Per.lv).drop 0).take (k - 0)), p.lv] (.bool (personOk (ps.take k) p)) := by
  have := isPersonAfter_spec (ps.take k) p
  rw [List.map_take] at this
  simpa using this
theorem isUnionAfter_take (ps : List Per) (us : List Uni) (k : Nat) (u : Uni) : FSpec env.P 116 [.sl (((us.map Uni.lv).drop 0).take (k - 0)), u.lv, .sl (ps.map Per.lv)] (.bool (unionOk ps (us.take k) u)) := by
  have := isUnionAfter_spec ps (us.take k) u
  rw [List.map_take] at this
  simpa using this

/-- impl.IsFamily -/
theorem isFamily_impl (ps : List Per) (us : List Uni) : FSpec env.P 73 [famLV ps us] (.bool (famOk ps us)) := by
  refine FSpec_of_code env_ok (fn := Tryz.f73) Tryz.func73 rfl Tryz.call73 _ _ ?_
  ((repeat ((conv => whnf); first | refine brT ?_ | refine brF ?_)); conv => whnf)
  intro hpn
  ((repeat ((conv => whnf); first | refine brT ?_ | refine brF ?_)); conv => whnf)
  (refine ⟨fun h1 => ?_, fun h1 => ?_⟩ <;> rw [h1])
  · ((repeat ((conv => whnf); first | refine brT ?_ | refine brF ?_)); conv => whnf)
    refine fin ?_
    have : decide (ps.length ≤ 40) = false := by rw [ltI_t] at h1; simp at h1; simp; omega
    simp [famOk, this]
  have hl : ps.length ≤ 40 := by rw [ltI_f] at h1; simp at h1; omega
  ((repeat ((conv => whnf); first | refine brT ?_ | refine brF ?_)); conv => whnf)
  intro hun
  ((repeat ((conv => whnf); first | refine brT ?_ | refine brF ?_)); conv => whnf)
  (refine ⟨fun h2 => ?_, fun h2 => ?_⟩ <;> rw [h2])
  · ((repeat ((conv => whnf); first | refine brT ?_ | refine brF ?_)); conv => whnf)
    refine fin ?_
    have : decide (us.length ≤ 60) = false := by rw [ltI_t] at h2; simp at h2; simp; omega
    simp [famOk, this]
  have hul : us.length ≤ 60 := by rw [ltI_f] at h2; simp at h2; omega
  have hp' : ps.length ≤ Go.maxLen := by simpa using hpn
  have hu' : us.length ≤ Go.maxLen := by simpa using hun
  have hfam : famOk ps us = (personsTo ps ps.length && (unionsTo ps us us.length && shallow (depths ps))) := by simp [famOk, hl, hul]
  ((repeat ((conv => whnf); first | refine brT ?_ | refine brF ?_)); conv => whnf)
  intro _
  ((repeat ((conv => whnf); first | refine brT ?_ | refine brF ?_)); conv => whnf)
  refine loop_rule (α := Nat) (fun k => [(22, .int .i64 (k : Int))]) (fun k => [.box (famLV ps us)]) (fun k => ps.length - k) (fun k => k ≤ ps.length ∧ personsTo ps k = true) 0 ⟨Nat.zero_le _, rfl⟩ ?_ ?_
  · refine ⟨?_, ⟨rfl, trivial⟩, rfl, rfl⟩
    ((repeat ((conv => whnf); refine ⟨rfl, ?_⟩)); trivial)
  rintro k ⟨hk, hok⟩
  ((repeat ((conv => whnf); first | refine brT ?_ | refine brF ?_)); conv => whnf)
  (refine ⟨fun g1 => ?_, fun g1 => ?_⟩ <;> rw [g1])
  · have hlt : k < ps.length := by rw [ltI_t] at g1; simp at g1; omega
    have e := step_i hlt hp'
    ((repeat ((conv => whnf); first | refine brT ?_ | refine brF ?_)); conv => whnf)
    refine ⟨k, ps[k].lv, rfl, by simp [hlt], rfl, ?_⟩
    ((repeat ((conv => whnf); first | refine brT ?_ | refine brF ?_)); conv => whnf)
    refine ⟨true, by kernel_rfl, ?_⟩
    ((repeat ((conv => whnf); first | refine brT ?_ | refine brF ?_)); conv => whnf)
    refine ⟨0, k, rfl, rfl, by omega, by simp; omega, by simp [Per.lv, LV.size, LV.sizes], ?_⟩
    ((repeat ((conv => whnf); first | refine brT ?_ | refine brF ?_)); conv => whnf)
    refine ⟨_, isPersonAfter_take ps k ps[k], ?_⟩
    ((repeat ((conv => whnf); first | refine brT ?_ | refine brF ?_)); conv => whnf)
    (refine ⟨fun g2 => ?_, fun g2 => ?_⟩ <;> rw [g2])
    · rw [notB_t] at g2
      ((repeat ((conv => whnf); first | refine brT ?_ | refine brF ?_)); conv => whnf)
      refine fin ?_
      rw [hfam, personsTo_no hlt hlt g2]
      rfl
    · rw [notB_f] at g2
      ((repeat ((conv => whnf); first | refine brT ?_ | refine brF ?_)); conv => whnf)
      refine round_end (k + 1) ⟨hlt, by rw [personsTo_succ hlt, hok, g2]; rfl⟩ (by omega) ⟨?_, ⟨rfl, trivial⟩, rfl, rfl⟩
      ((repeat ((conv => whnf); first | refine ⟨e, ?_⟩ | refine ⟨rfl, ?_⟩)); trivial)
  have hkl : k = ps.length := by rw [ltI_f] at g1; simp at g1; omega
  subst hkl
  have hpars := parsIn_of hok
  ((repeat ((conv => whnf); first | refine brT ?_ | refine brF ?_)); conv => whnf)
  intro _
  ((repeat ((conv => whnf); first | refine brT ?_ | refine brF ?_)); conv => whnf)
  refine loop_rule (α := Nat) (fun k => [(38, .int .i64 (k : Int))]) (fun k => [.box (famLV ps us)]) (fun k => us.length - k) (fun k => k ≤ us.length ∧ unionsTo ps us k = true) 0 ⟨Nat.zero_le _, rfl⟩ ?_ ?_
  · refine ⟨?_, ⟨rfl, trivial⟩, rfl, rfl⟩
    ((repeat ((conv => whnf); refine ⟨rfl, ?_⟩)); trivial)
  rintro j ⟨hj, huok⟩
  ((repeat ((conv => whnf); first | refine brT ?_ | refine brF ?_)); conv => whnf)
  (refine ⟨fun j1 => ?_, fun j1 => ?_⟩ <;> rw [j1])
  · have hlt : j < us.length := by rw [ltI_t] at j1; simp at j1; omega
    have e := step_i hlt hu'
    ((repeat ((conv => whnf); first | refine brT ?_ | refine brF ?_)); conv => whnf)
    refine ⟨j, us[j].lv, rfl, by simp [hlt], rfl, ?_⟩
    ((repeat ((conv => whnf); first | refine brT ?_ | refine brF ?_)); conv => whnf)
    refine ⟨true, by kernel_rfl, ?_⟩
    ((repeat ((conv => whnf); first | refine brT ?_ | refine brF ?_)); conv => whnf)
    refine ⟨0, j, rfl, rfl, by omega, by simp; omega, by simp [Uni.lv, LV.size, LV.sizes], ?_⟩
    ((repeat ((conv => whnf); first | refine brT ?_ | refine brF ?_)); conv => whnf)
    refine ⟨_, isUnionAfter_take ps us j us[j], ?_⟩
    ((repeat ((conv => whnf); first | refine brT ?_ | refine brF ?_)); conv => whnf)
    (refine ⟨fun j2 => ?_, fun j2 => ?_⟩ <;> rw [j2])
    · rw [notB_t] at j2
      ((repeat ((conv => whnf); first | refine brT ?_ | refine brF ?_)); conv => whnf)
      refine fin ?_
      rw [hfam, unionsTo_no hlt hlt j2]
      simp
    · rw [notB_f] at j2
      ((repeat ((conv => whnf); first | refine brT ?_ | refine brF ?_)); conv => whnf)
      refine round_end (j + 1) ⟨hlt, by rw [unionsTo_succ hlt, huok, j2]; rfl⟩ (by omega) ⟨?_, ⟨rfl, trivial⟩, rfl, rfl⟩
      ((repeat ((conv => whnf); first | refine ⟨e, ?_⟩ | refine ⟨rfl, ?_⟩)); trivial)
  have hjl : j = us.length := by rw [ltI_f] at j1; simp at j1; omega
  subst hjl
  have hfam2 : famOk ps us = shallow (depths ps) := by rw [hfam, hok, huok]; rfl
  ((repeat ((conv => whnf); first | refine brT ?_ | refine brF ?_)); conv => whnf)
  refine ⟨_, depthsOf_spec ps hl hpars, ?_⟩
  ((repeat ((conv => whnf); first | refine brT ?_ | refine brF ?_)); conv => whnf)
  intro hdn
  have hd' : (depths ps).length ≤ Go.maxLen := by simpa using hdn
  ((repeat ((conv => whnf); first | refine brT ?_ | refine brF ?_)); conv => whnf)
  refine loop_rule (α := Nat) (fun k => [(57, .int .i64 (k : Int))]) (fun k => [.box (famLV ps us)]) (fun k => (depths ps).length - k) (fun k => k ≤ (depths ps).length ∧ shallow ((depths ps).take k) = true) 0 ⟨Nat.zero_le _, rfl⟩ ?_ ?_
  · refine ⟨?_, ⟨rfl, trivial⟩, rfl, rfl⟩
    ((repeat ((conv => whnf); refine ⟨rfl, ?_⟩)); trivial)
  rintro i ⟨hi, hsh⟩
  ((repeat ((conv => whnf); first | refine brT ?_ | refine brF ?_)); conv => whnf)
  (refine ⟨fun d1 => ?_, fun d1 => ?_⟩ <;> rw [d1])
  · have hlt : i < (depths ps).length := by rw [ltI_t] at d1; simp at d1; omega
    have e := step_i hlt hd'
    ((repeat ((conv => whnf); first | refine brT ?_ | refine brF ?_)); conv => whnf)
    refine ⟨i, .int .i64 (depths ps)[i], rfl, by simp [hlt, intLV], rfl, ?_⟩
    ((repeat ((conv => whnf); first | refine brT ?_ | refine brF ?_)); conv => whnf)
    (refine ⟨fun d2 => ?_, fun d2 => ?_⟩ <;> rw [d2])
    · ((repeat ((conv => whnf); first | refine brT ?_ | refine brF ?_)); conv => whnf)
      refine fin ?_
      rw [hfam2, shallow_no hlt d2]
    · ((repeat ((conv => whnf); first | refine brT ?_ | refine brF ?_)); conv => whnf)
      refine round_end (i + 1) ⟨hlt, by rw [shallow_succ hlt, hsh, shallow_le d2]; rfl⟩ (by omega) ⟨?_, ⟨rfl, trivial⟩, rfl, rfl⟩
      ((repeat ((conv => whnf); first | refine ⟨e, ?_⟩ | refine ⟨rfl, ?_⟩)); trivial)
  · have hil : i = (depths ps).length := by rw [ltI_f] at d1; simp at d1; omega
    subst hil
    rw [List.take_length] at hsh
    ((repeat ((conv => whnf); first | refine brT ?_ | refine brF ?_)); conv => whnf)
    refine fin ?_
    rw [hfam2, hsh]

/-- Asked of the person in the family, or of the person behind those before: the same, if those before are valid. -/
theorem parentAt_eq {ps : List Per} {i : Nat} {x sex born late : Int} (hl : i < ps.length) (hok : personsTo ps i = true) (h0 : 0 ≤ born) (h1 : born ≤ 9999) (hs : (sex = 1 ∧ late = 1) ∨ (sex = 2 ∧ late = 0)) :
    parentAt ps i x sex late born = parentOk (ps.take i) x sex born := by
  unfold parentAt parentOk
  congr 1
  cases e0 : leI 0 x with
  | false => rfl
  | true =>
    rw [leI_t] at e0
    simp only [Bool.true_and]
    by_cases hx : x < i
    · have hxl : x.toNat < ps.length := by omega
      have e1 : ltI x i = true := ltI_t.2 hx
      have e2 : (ps.take i)[x.toNat]? = some ps[x.toNat] := by rw [List.getElem?_take_of_lt (by omega)]; exact List.getElem?_eq_getElem hxl
      rw [e1, e2, List.getElem?_eq_getElem hxl]
      simp only [Bool.true_and]
      have hq := personOk_spec (personsTo_get hok (i := x.toNat) (by omega) hxl)
      generalize ps[x.toNat] = q at hq ⊢
      congr 1
      congr 1
      have hd := hq.2.2.2.2.2.1
      have hb := hq.2.2.2.1
      rcases hs with ⟨rfl, rfl⟩ | ⟨rfl, rfl⟩
      · have w1 : IntKind.i64.wrap (q.died + 1) = q.died + 1 := wrap64 (by omega) (by omega)
        have w2 : IntKind.i64.wrap (born - 1) = born - 1 := wrap64 (by omega) (by omega)
        rw [show eqI (1 : Int) 1 = true from eqI_t.2 rfl]
        simp only [livedTo, w1, w2]
        congr 1
        rw [Bool.eq_iff_iff, leI_t, leI_t]
        omega
      · have w1 : IntKind.i64.wrap (q.died + 0) = q.died + 0 := wrap64 (by omega) (by omega)
        rw [show eqI (2 : Int) 1 = false from eqI_f.2 (by decide)]
        simp only [livedTo, w1]
        congr 1
        rw [Bool.eq_iff_iff, leI_t, leI_t]
        omega
    · have e1 : ltI x i = false := ltI_f.2 (by omega)
      have e2 : (ps.take i)[x.toNat]? = none := by rw [List.getElem?_eq_none]; simp; omega
      rw [e1, e2]
      rfl

theorem findFrom_fresh {n : ByteArray} : ∀ (ps : List Per) (i : Nat), (findFrom n i ps = none) ↔ (ps.all fun q => notB (eqS q.name n)) = true
  | [], _ => by simp [findFrom]
  | p :: ps, i => by
    simp only [findFrom, List.all_cons, Bool.and_eq_true]
    cases e : eqS p.name n
    · rw [findFrom_fresh ps (i + 1)]; simp [notB]
    · simp [notB]

theorem personAt_eq {ps : List Per} {i : Nat} (hl : i < ps.length) (hok : personsTo ps i = true) : personAt ps i ps[i] = personOk (ps.take i) ps[i] := by
  generalize ps[i] = p
  unfold personAt personOk fresh
  have hf := findFrom_fresh (n := p.name) (ps.take i) 0
  cases e : findFrom p.name 0 (ps.take i) with
  | some j =>
    have : ((ps.take i).all fun q => notB (eqS q.name p.name)) = false := by
      cases h : ((ps.take i).all fun q => notB (eqS q.name p.name)) with
      | false => rfl
      | true => rw [hf.2 h] at e; cases e
    rw [this]
    simp
  | none =>
    rw [hf.1 e]
    by_cases hb : 0 ≤ p.born ∧ p.born ≤ 9999
    · rw [parentAt_eq hl hok hb.1 hb.2 (.inl ⟨rfl, rfl⟩), parentAt_eq hl hok hb.1 hb.2 (.inr ⟨rfl, rfl⟩)]
      simp only [Bool.true_and]
      generalize parentOk (ps.take i) p.father 1 p.born = A
      generalize parentOk (ps.take i) p.mother 2 p.born = B
      unfold shapeOk endYear
      have : (leI 1 p.sex && leI p.sex 2) = (eqI p.sex 1 || eqI p.sex 2) := by
        rw [Bool.eq_iff_iff]; simp only [Bool.and_eq_true, Bool.or_eq_true, leI_t, eqI_t]; omega
      rw [this]
      generalize leI 0 p.born = a
      generalize leI p.born 9999 = b
      generalize isName p.name = c
      generalize (eqI p.sex 1 || eqI p.sex 2) = d
      generalize (eqI p.died (-1) || leI p.born p.died && leI p.died 9999) = e
      cases a <;> cases b <;> cases c <;> cases d <;> cases e <;> cases A <;> cases B <;> rfl
    · have hn : (leI 0 p.born && leI p.born 9999) = false := by
        cases h : (leI 0 p.born && leI p.born 9999) with
        | false => rfl
        | true => simp only [Bool.and_eq_true, leI_t] at h; exact absurd h hb
      have e1 : shapeOk p = false := by unfold shapeOk; rw [hn]; simp
      rw [e1]
      have : (leI 0 p.born && (leI p.born 9999 && endYear p.died p.born)) = false := by
        rw [← Bool.and_assoc, hn]; rfl
      rw [this]
      simp

/-- spec.IsFamily -/
theorem isFamily_spec (ps : List Per) (us : List Uni) : FSpec env.P 65 [famLV ps us] (.bool (famOk ps us)) := by
  refine FSpec_of_code env_ok (fn := Tryz.f65) Tryz.func65 rfl Tryz.call65 _ _ ?_
  ((repeat ((conv => whnf); first | refine brT ?_ | refine brF ?_)); conv => whnf)
  intro hpn
  ((repeat ((conv => whnf); first | refine brT ?_ | refine brF ?_)); conv => whnf)
  (refine ⟨fun h1 => ?_, fun h1 => ?_⟩ <;> rw [h1])
  · ((repeat ((conv => whnf); first | refine brT ?_ | refine brF ?_)); conv => whnf)
    refine fin ?_
    have : decide (ps.length ≤ 40) = false := by rw [ltI_t] at h1; simp at h1; simp; omega
    simp [famOk, this]
  have hl : ps.length ≤ 40 := by rw [ltI_f] at h1; simp at h1; omega
  ((repeat ((conv => whnf); first | refine brT ?_ | refine brF ?_)); conv => whnf)
  intro hun
  ((repeat ((conv => whnf); first | refine brT ?_ | refine brF ?_)); conv => whnf)
  (refine ⟨fun h2 => ?_, fun h2 => ?_⟩ <;> rw [h2])
  · ((repeat ((conv => whnf); first | refine brT ?_ | refine brF ?_)); conv => whnf)
    refine fin ?_
    have : decide (us.length ≤ 60) = false := by rw [ltI_t] at h2; simp at h2; simp; omega
    simp [famOk, this]
  have hul : us.length ≤ 60 := by rw [ltI_f] at h2; simp at h2; omega
  have hp' : ps.length ≤ Go.maxLen := by simpa using hpn
  have hu' : us.length ≤ Go.maxLen := by simpa using hun
  have hfam : famOk ps us = (personsTo ps ps.length && (unionsTo ps us us.length && shallow (depths ps))) := by simp [famOk, hl, hul]
  ((repeat ((conv => whnf); first | refine brT ?_ | refine brF ?_)); conv => whnf)
  intro _
  ((repeat ((conv => whnf); first | refine brT ?_ | refine brF ?_)); conv => whnf)
  refine loop_rule (α := Nat) (fun k => [(20, .int .i64 (k : Int))]) (fun k => [.box (famLV ps us)]) (fun k => ps.length - k) (fun k => k ≤ ps.length ∧ personsTo ps k = true) 0 ⟨Nat.zero_le _, rfl⟩ ?_ ?_
  · refine ⟨?_, ⟨rfl, trivial⟩, rfl, rfl⟩
    ((repeat ((conv => whnf); refine ⟨rfl, ?_⟩)); trivial)
  rintro k ⟨hk, hok⟩
  ((repeat ((conv => whnf); first | refine brT ?_ | refine brF ?_)); conv => whnf)
  (refine ⟨fun g1 => ?_, fun g1 => ?_⟩ <;> rw [g1])
  · have hlt : k < ps.length := by rw [ltI_t] at g1; simp at g1; omega
    have e := step_i hlt hp'
    have hpe := personAt_eq hlt hok
    ((repeat ((conv => whnf); first | refine brT ?_ | refine brF ?_)); conv => whnf)
    refine ⟨_, l1Person_spec ps us k hlt hl, ?_⟩
    rw [hpe]
    ((repeat ((conv => whnf); first | refine brT ?_ | refine brF ?_)); conv => whnf)
    (refine ⟨fun g2 => ?_, fun g2 => ?_⟩ <;> rw [g2])
    · rw [notB_t] at g2
      ((repeat ((conv => whnf); first | refine brT ?_ | refine brF ?_)); conv => whnf)
      refine fin ?_
      rw [hfam, personsTo_no hlt hlt g2]
      rfl
    · rw [notB_f] at g2
      ((repeat ((conv => whnf); first | refine brT ?_ | refine brF ?_)); conv => whnf)
      refine round_end (k + 1) ⟨hlt, by rw [personsTo_succ hlt, hok, g2]; rfl⟩ (by omega) ⟨?_, ⟨rfl, trivial⟩, rfl, rfl⟩
      ((repeat ((conv => whnf); first | refine ⟨e, ?_⟩ | refine ⟨rfl, ?_⟩)); trivial)
  have hkl : k = ps.length := by rw [ltI_f] at g1; simp at g1; omega
  subst hkl
  have hpars := parsIn_of hok
  ((repeat ((conv => whnf); first | refine brT ?_ | refine brF ?_)); conv => whnf)
  refine ⟨_, l1Depths_spec ps us hl hpars, ?_⟩
  ((repeat ((conv => whnf); first | refine brT ?_ | refine brF ?_)); conv => whnf)
  intro hdn
  have hd' : (depths ps).length ≤ Go.maxLen := by simpa using hdn
  ((repeat ((conv => whnf); first | refine brT ?_ | refine brF ?_)); conv => whnf)
  refine loop_rule (α := Nat) (fun k => [(31, .int .i64 (k : Int))]) (fun k => [.box (famLV ps us)]) (fun k => (depths ps).length - k) (fun k => k ≤ (depths ps).length ∧ shallow ((depths ps).take k) = true) 0 ⟨Nat.zero_le _, rfl⟩ ?_ ?_
  · refine ⟨?_, ⟨rfl, trivial⟩, rfl, rfl⟩
    ((repeat ((conv => whnf); refine ⟨rfl, ?_⟩)); trivial)
  rintro i ⟨hi, hsh⟩
  ((repeat ((conv => whnf); first | refine brT ?_ | refine brF ?_)); conv => whnf)
  (refine ⟨fun d1 => ?_, fun d1 => ?_⟩ <;> rw [d1])
  · have hlt : i < (depths ps).length := by rw [ltI_t] at d1; simp at d1; omega
    have e := step_i hlt hd'
    ((repeat ((conv => whnf); first | refine brT ?_ | refine brF ?_)); conv => whnf)
    refine ⟨i, .int .i64 (depths ps)[i], rfl, by simp [hlt, intLV], rfl, ?_⟩
    ((repeat ((conv => whnf); first | refine brT ?_ | refine brF ?_)); conv => whnf)
    (refine ⟨fun d2 => ?_, fun d2 => ?_⟩ <;> rw [d2])
    · ((repeat ((conv => whnf); first | refine brT ?_ | refine brF ?_)); conv => whnf)
      refine fin ?_
      rw [hfam, shallow_no hlt d2]
      simp
    · ((repeat ((conv => whnf); first | refine brT ?_ | refine brF ?_)); conv => whnf)
      refine round_end (i + 1) ⟨hlt, by rw [shallow_succ hlt, hsh, shallow_le d2]; rfl⟩ (by omega) ⟨?_, ⟨rfl, trivial⟩, rfl, rfl⟩
      ((repeat ((conv => whnf); first | refine ⟨e, ?_⟩ | refine ⟨rfl, ?_⟩)); trivial)
  have hil : i = (depths ps).length := by rw [ltI_f] at d1; simp at d1; omega
  subst hil
  rw [List.take_length] at hsh
  ((repeat ((conv => whnf); first | refine brT ?_ | refine brF ?_)); conv => whnf)
  intro _
  ((repeat ((conv => whnf); first | refine brT ?_ | refine brF ?_)); conv => whnf)
  refine loop_rule (α := Nat) (fun k => [(41, .int .i64 (k : Int))]) (fun k => [.box (famLV ps us)]) (fun k => us.length - k) (fun k => k ≤ us.length ∧ unionsTo ps us k = true) 0 ⟨Nat.zero_le _, rfl⟩ ?_ ?_
  · refine ⟨?_, ⟨rfl, trivial⟩, rfl, rfl⟩
    ((repeat ((conv => whnf); refine ⟨rfl, ?_⟩)); trivial)
  rintro j ⟨hj, huok⟩
  ((repeat ((conv => whnf); first | refine brT ?_ | refine brF ?_)); conv => whnf)
  (refine ⟨fun j1 => ?_, fun j1 => ?_⟩ <;> rw [j1])
  · have hlt : j < us.length := by rw [ltI_t] at j1; simp at j1; omega
    have e := step_i hlt hu'
    ((repeat ((conv => whnf); first | refine brT ?_ | refine brF ?_)); conv => whnf)
    refine ⟨_, l1Union_spec ps us j hlt hl hul, ?_⟩
    ((repeat ((conv => whnf); first | refine brT ?_ | refine brF ?_)); conv => whnf)
    (refine ⟨fun j2 => ?_, fun j2 => ?_⟩ <;> rw [j2])
    · rw [notB_t] at j2
      ((repeat ((conv => whnf); first | refine brT ?_ | refine brF ?_)); conv => whnf)
      refine fin ?_
      rw [hfam, unionsTo_no hlt hlt j2]
      simp
    · rw [notB_f] at j2
      ((repeat ((conv => whnf); first | refine brT ?_ | refine brF ?_)); conv => whnf)
      refine round_end (j + 1) ⟨hlt, by rw [unionsTo_succ hlt, huok, j2]; rfl⟩ (by omega) ⟨?_, ⟨rfl, trivial⟩, rfl, rfl⟩
      ((repeat ((conv => whnf); first | refine ⟨e, ?_⟩ | refine ⟨rfl, ?_⟩)); trivial)
  have hjl : j = us.length := by rw [ltI_f] at j1; simp at j1; omega
  subst hjl
  ((repeat ((conv => whnf); first | refine brT ?_ | refine brF ?_)); conv => whnf)
  refine fin ?_
  rw [hfam, hok, huok, hsh]
  rfl
end Go.Proofs.YtdhmnojnkgmmnaaGreat


namespace Go.Proofs.YtdhmnojnkgmmnaaGreat
open Go.Lg
set_option maxHeartbeats 800000
set_option maxRecDepth 10000
set_option linter.unusedVariables false
set_option linter.unusedSimpArgs false

/-- The family is valid and has the person. -/
def hasP (ps : List Per) (us : List Uni) (p : Int) : Bool := leI 0 p && (ltI p (ps.length : Int) && famOk ps us)
theorem l1Has_spec (ps : List Per) (us : List Uni) (p : Int) : FSpec env.P 31 [famLV ps us, .int .i64 p] (.bool (hasP ps us p)) := by
  refine FSpec_of_code env_ok (fn := Tryz.f31) Tryz.func31 rfl Tryz.call31 _ _ ?_
  ((repeat ((conv => whnf); first | refine brT ?_ | refine brF ?_)); conv => whnf)
  (refine ⟨fun h1 => ?_, fun h1 => ?_⟩ <;> rw [h1])
  · ((repeat ((conv => whnf); first | refine brT ?_ | refine brF ?_)); conv => whnf)
    intro hn
    ((repeat' (((repeat ((conv => whnf); first | refine brT ?_ | refine brF ?_)); conv => whnf); first | (refine And.intro ?_ ?_ <;> (intro h; rw [h]; revert h; intro _)) | (refine Exists.intro true (And.intro (a := drawB _ _ = true) (by kernel_rfl) ?_)) | (refine Exists.intro _ (And.intro (isFamily_spec ps us) ?_)))); all_goals ((repeat ((conv => whnf); first | refine brT ?_ | refine brF ?_)); conv => whnf))
    all_goals (refine fin ?_; simp_all [hasP])
  · ((repeat ((conv => whnf); first | refine brT ?_ | refine brF ?_)); conv => whnf)
    refine fin ?_; simp [hasP, h1]
theorem hasPerson_spec (ps : List Per) (us : List Uni) (p : Int) : FSpec env.P 38 [famLV ps us, .int .i64 p] (.bool (hasP ps us p)) := by
  refine FSpec_of_code env_ok (fn := Tryz.f38) Tryz.func38 rfl Tryz.call38 _ _ ?_
  ((repeat ((conv => whnf); first | refine brT ?_ | refine brF ?_)); conv => whnf)
  (refine ⟨fun h1 => ?_, fun h1 => ?_⟩ <;> rw [h1])
  · ((repeat ((conv => whnf); first | refine brT ?_ | refine brF ?_)); conv => whnf)
    intro hn
    ((repeat' (((repeat ((conv => whnf); first | refine brT ?_ | refine brF ?_)); conv => whnf); first | (refine And.intro ?_ ?_ <;> (intro h; rw [h]; revert h; intro _)) | (refine Exists.intro true (And.intro (a := drawB _ _ = true) (by kernel_rfl) ?_)) | (refine Exists.intro _ (And.intro (isFamily_impl ps us) ?_)))); all_goals ((repeat ((conv => whnf); first | refine brT ?_ | refine brF ?_)); conv => whnf))
    all_goals (refine fin ?_; simp_all [hasP])
  · ((repeat ((conv => whnf); first | refine brT ?_ | refine brF ?_)); conv => whnf)
    refine fin ?_; simp [hasP, h1]
theorem hasP_lt {ps : List Per} {us : List Uni} {p : Int} (h : hasP ps us p = true) : 0 ≤ p ∧ p.toNat < ps.length ∧ famOk ps us = true := by
  unfold hasP at h
  simp only [Bool.and_eq_true, leI_t, ltI_t] at h
  exact ⟨h.1, by omega, h.2.2⟩
theorem famOk_parts {ps : List Per} {us : List Uni} (h : famOk ps us = true) : ps.length ≤ 40 ∧ us.length ≤ 60 ∧ personsTo ps ps.length = true ∧ unionsTo ps us us.length = true ∧ shallow (depths ps) = true := by
  unfold famOk at h
  simpa only [Bool.and_eq_true, decide_eq_true_eq] using h

/-- IsElder -/
def elder (ps : List Per) (a b : Int) : Bool := match ps[a.toNat]?, ps[b.toNat]? with
  | some x, some y => ltI x.born y.born || (eqI x.born y.born && ltI a b)
  | _, _ => false
theorem l1Elder_spec (ps : List Per) (us : List Uni) (a b : Int) (a0 : 0 ≤ a) (al : a.toNat < ps.length) (b0 : 0 ≤ b) (bl : b.toNat < ps.length) :
    FSpec env.P 148 [famLV ps us, .int .i64 a, .int .i64 b] (.bool (elder ps a b)) := by
  refine FSpec_of_code env_ok (fn := Tryz.f148) Tryz.func148 rfl Tryz.call148 _ _ ?_
  have he : elder ps a b = (ltI ps[a.toNat].born ps[b.toNat].born || (eqI ps[a.toNat].born ps[b.toNat].born && ltI a b)) := by simp [elder, al, bl]
  ((repeat ((conv => whnf); first | refine brT ?_ | refine brF ?_)); conv => whnf)
  refine ⟨a.toNat, ps[a.toNat].lv, by omega, by simp [al], rfl, ?_⟩
  ((repeat ((conv => whnf); first | refine brT ?_ | refine brF ?_)); conv => whnf)
  refine ⟨b.toNat, ps[b.toNat].lv, by omega, by simp [bl], rfl, ?_⟩
  ((repeat' (((repeat ((conv => whnf); first | refine brT ?_ | refine brF ?_)); conv => whnf); (refine And.intro ?_ ?_ <;> (intro h; rw [h]; revert h; intro _)))); all_goals ((repeat ((conv => whnf); first | refine brT ?_ | refine brF ?_)); conv => whnf))
  all_goals (refine fin ?_; simp [*])
def cmpI (a b : Int) : Int := match ltI a b with | true => -1 | false => match ltI b a with | true => 1 | false => 0
theorem isNaN_spec (a : Int) : FSpec env.P 180 [.int .i64 a] (.bool false) := by
  refine FSpec_of_code env_ok (fn := Tryz.f180) Tryz.func180 rfl Tryz.call180 _ _ ?_
  ((repeat ((conv => whnf); first | refine brT ?_ | refine brF ?_)); conv => whnf)
  exact fin (by simp [notB, eqI_refl])
theorem compare_spec (a b : Int) : FSpec env.P 179 [.int .i64 a, .int .i64 b] (.int .i64 (cmpI a b)) := by
  refine FSpec_of_code env_ok (fn := Tryz.f179) Tryz.func179 rfl Tryz.call179 _ _ ?_
  ((repeat' (((repeat ((conv => whnf); first | refine brT ?_ | refine brF ?_)); conv => whnf); first | (refine And.intro ?_ ?_ <;> (intro h; rw [h]; revert h; intro _)) | (refine Exists.intro true (And.intro (a := drawB _ _ = true) (by kernel_rfl) ?_)) | (refine Exists.intro _ (And.intro (isNaN_spec _) ?_)))); all_goals ((repeat ((conv => whnf); first | refine brT ?_ | refine brF ?_)); conv => whnf))
  all_goals
    refine ⟨rfl, ?_, List.nodup_nil⟩
    simp [cmpI, *]
def orI (a b : Int) : Int := match eqI a 0 with | true => b | false => a
theorem or_spec (a b : Int) : FSpec env.P 178 [.sl [.int .i64 a, .int .i64 b]] (.int .i64 (orI a b)) := by
  refine FSpec_of_code env_ok (fn := Tryz.f178) Tryz.func178 rfl Tryz.call178 _ _ ?_
  ((repeat ((conv => whnf); first | refine brT ?_ | refine brF ?_)); conv => whnf)
  intro _
  ((repeat ((conv => whnf); first | refine brT ?_ | refine brF ?_)); conv => whnf)
  refine loop_rule (α := Nat) (fun k => [(8, .int .i64 (k : Int))]) (fun k => []) (fun k => 2 - k) (fun k => k ≤ 2 ∧ (1 ≤ k → a = 0) ∧ (2 ≤ k → b = 0)) 0 ⟨by omega, by omega, by omega⟩ ?_ ?_
  · refine ⟨?_, trivial, rfl, rfl⟩
    ((repeat ((conv => whnf); refine ⟨rfl, ?_⟩)); trivial)
  rintro k ⟨hk, ha, hb⟩
  ((repeat ((conv => whnf); first | refine brT ?_ | refine brF ?_)); conv => whnf)
  (refine ⟨fun h1 => ?_, fun h1 => ?_⟩ <;> rw [h1])
  · have hlt : k < 2 := by rw [ltI_t] at h1; simp at h1; omega
    have e : LV.int .i64 (IntKind.i64.wrap ((k : Int) + 1)) = LV.int .i64 ((k + 1 : Nat) : Int) := step_i hlt (by decide)
    ((repeat ((conv => whnf); first | refine brT ?_ | refine brF ?_)); conv => whnf)
    refine ⟨k, .int .i64 ([a, b][k]'hlt), rfl, ?_, rfl, ?_⟩
    · match k, hlt with
      | 0, _ => rfl
      | 1, _ => rfl
    ((repeat ((conv => whnf); first | refine brT ?_ | refine brF ?_)); conv => whnf)
    (refine ⟨fun h2 => ?_, fun h2 => ?_⟩ <;> rw [h2])
    · ((repeat ((conv => whnf); first | refine brT ?_ | refine brF ?_)); conv => whnf)
      refine ⟨rfl, ?_, List.nodup_nil⟩
      rw [notB_t] at h2
      match k, hlt, h2 with
      | 0, _, h2 => simp at h2; simp [orI, h2]
      | 1, _, h2 => have := ha (by omega); subst this; simp [orI, eqI_refl]
    · rw [notB_f, eqI_t] at h2
      ((repeat ((conv => whnf); first | refine brT ?_ | refine brF ?_)); conv => whnf)
      refine round_end (k + 1) ⟨hlt, fun _ => ?_, fun h => ?_⟩ (by omega) ⟨?_, trivial, rfl, rfl⟩
      · match k, hlt, h2 with
        | 0, _, h2 => simpa using h2
        | 1, _, h2 => exact ha (by omega)
      · match k, hlt, h2, h with
        | 1, _, h2, _ => simpa using h2
      · ((repeat ((conv => whnf); first | refine ⟨e, ?_⟩ | refine ⟨rfl, ?_⟩)); trivial)
  · have h3 : k = 2 := by rw [ltI_f] at h1; simp at h1; omega
    subst h3
    have := ha (by omega)
    have := hb (by omega)
    subst a; subst b
    ((repeat ((conv => whnf); first | refine brT ?_ | refine brF ?_)); conv => whnf)
    exact ⟨rfl, by simp [orI, eqI_refl], List.nodup_nil⟩
def ageI (ps : List Per) (a b : Int) : Int := match ps[a.toNat]?, ps[b.toNat]? with
  | some x, some y => orI (cmpI x.born y.born) (cmpI a b)
  | _, _ => 0
theorem compareAge_spec (ps : List Per) (us : List Uni) (a b : Int) (a0 : 0 ≤ a) (al : a.toNat < ps.length) (b0 : 0 ≤ b) (bl : b.toNat < ps.length) :
    FSpec env.P 177 [famLV ps us, .int .i64 a, .int .i64 b] (.int .i64 (ageI ps a b)) := by
  refine FSpec_of_code env_ok (fn := Tryz.f177) Tryz.func177 rfl Tryz.call177 _ _ ?_
  have he : ageI ps a b = orI (cmpI ps[a.toNat].born ps[b.toNat].born) (cmpI a b) := by simp [ageI, al, bl]
  ((repeat ((conv => whnf); first | refine brT ?_ | refine brF ?_)); conv => whnf)
  refine ⟨true, by kernel_rfl, ?_⟩
  ((repeat ((conv => whnf); first | refine brT ?_ | refine brF ?_)); conv => whnf)
  refine ⟨a.toNat, ps[a.toNat].lv, by omega, by simp [al], rfl, ?_⟩
  ((repeat ((conv => whnf); first | refine brT ?_ | refine brF ?_)); conv => whnf)
  refine ⟨b.toNat, ps[b.toNat].lv, by omega, by simp [bl], rfl, ?_⟩
  ((repeat ((conv => whnf); first | refine brT ?_ | refine brF ?_)); conv => whnf)
  refine ⟨_, compare_spec _ _, ?_⟩
  ((repeat ((conv => whnf); first | refine brT ?_ | refine brF ?_)); conv => whnf)
  refine ⟨_, compare_spec _ _, ?_⟩
  ((repeat ((conv => whnf); first | refine brT ?_ | refine brF ?_)); conv => whnf)
  refine ⟨rfl, ?_⟩
  ((repeat ((conv => whnf); first | refine brT ?_ | refine brF ?_)); conv => whnf)
  refine ⟨_, or_spec _ _, ?_⟩
  ((repeat ((conv => whnf); first | refine brT ?_ | refine brF ?_)); conv => whnf)
  exact ⟨rfl, he.symm, List.nodup_nil⟩
theorem age_elder (ps : List Per) (a b : Int) : ltI (ageI ps a b) 0 = elder ps a b := by
  unfold ageI elder
  split
  · rename_i x y _ _
    rw [Bool.eq_iff_iff]
    simp only [ltI_t, Bool.or_eq_true, Bool.and_eq_true, eqI_t]
    unfold orI cmpI
    grind [ltI_t, ltI_f, eqI_t, eqI_f]
  · rw [ltI_f]; omega
end Go.Proofs.YtdhmnojnkgmmnaaGreat

namespace Go.Proofs.YtdhmnojnkgmmnaaGreat
open Go.Lg
set_option maxHeartbeats 800000
set_option maxRecDepth 10000
set_option linter.unusedVariables false
set_option linter.unusedSimpArgs false

/-! UnionEnd -/
/-- The union's two persons are of the family. -/
structure UniIn (ps : List Per) (u : Uni) : Prop where
  m0 : 0 ≤ u.husband
  ml : u.husband.toNat < ps.length
  w0 : 0 ≤ u.wife
  wl : u.wife.toNat < ps.length
/-- Years are years. -/
structure UniYears (ps : List Per) (u : Uni) (h : UniIn ps u) : Prop where
  t : u.till = -1 ∨ 0 ≤ u.till
  m : (ps[u.husband.toNat]'h.ml).died = -1 ∨ 0 ≤ (ps[u.husband.toNat]'h.ml).died
  w : (ps[u.wife.toNat]'h.wl).died = -1 ∨ 0 ≤ (ps[u.wife.toNat]'h.wl).died

end Go.Proofs.YtdhmnojnkgmmnaaGreat

namespace Go.Proofs.YtdhmnojnkgmmnaaGreat
open Go.Lg
set_option maxHeartbeats 1600000
set_option maxRecDepth 10000
set_option linter.unusedVariables false
set_option linter.unusedSimpArgs false

theorem toPersonS_h (ps : List Per) (hb : 56 * ps.length ≤ 281474976710656) : HSpec env.P 35 [.sl (ps.map Per.lv)] [] (.hs 0 ps.length) [.arr 85 6 (ps.map Per.lv)] := by
  refine HSpec_of_code (E := env.x [] 0) env_ok.x (fn := Tryz.f35) Tryz.func35 rfl Tryz.call35 _ _ _ _ ?_
  ((repeat ((conv => whnf); first | refine brT ?_ | refine brF ?_)); conv => whnf)
  intro hp
  have hp' : ps.length ≤ Go.maxLen := by simpa using hp
  ((repeat ((conv => whnf); first | refine brT ?_ | refine brF ?_)); conv => whnf)
  refine ⟨ps.length, by simp, by simp, hb, hp', rfl, by decide, ?_⟩
  ((repeat ((conv => whnf); first | refine brT ?_ | refine brF ?_)); conv => whnf)
  refine loop_rule (α := Nat) (fun k => [(4, .int .i64 (k : Int))]) (fun k => [.arr 85 6 (fillLV Per.lv zPer ps k)]) (fun k => ps.length - k) (fun k => k ≤ ps.length) 0 (Nat.zero_le _) ?_ ?_
  · refine ⟨?_, ⟨by simp [zPer, fillLV], trivial⟩, rfl, rfl⟩
    repeat ((conv => whnf); refine ⟨rfl, ?_⟩)
    trivial
  rintro k hk
  ((repeat ((conv => whnf); first | refine brT ?_ | refine brF ?_)); conv => whnf)
  intro _
  ((repeat ((conv => whnf); first | refine brT ?_ | refine brF ?_)); conv => whnf)
  refine ⟨fun h1 => ?_, fun h1 => ?_⟩ <;> rw [h1]
  · have hlt : k < ps.length := by rw [ltI_t] at h1; simp at h1; omega
    ((repeat ((conv => whnf); first | refine brT ?_ | refine brF ?_)); conv => whnf)
    refine ⟨k, ps[k].lv, rfl, by simp [hlt], rfl, ?_⟩
    ((repeat ((conv => whnf); first | refine brT ?_ | refine brF ?_)); conv => whnf)
    refine ⟨_, toPerson_spec ps[k], ?_⟩
    ((repeat ((conv => whnf); first | refine brT ?_ | refine brF ?_)); conv => whnf)
    refine ⟨(fill_len hk).symm, rfl, k, rfl, by rw [fill_len hk]; exact hlt, ?_⟩
    ((repeat ((conv => whnf); first | refine brT ?_ | refine brF ?_)); conv => whnf)
    refine ⟨(fill_len hk).symm, k, [], zPer, rfl, by simp [getP, fill_get hlt], rfl, rfl, rfl, _, rfl, ?_⟩
    ((repeat ((conv => whnf); first | refine brT ?_ | refine brF ?_)); conv => whnf)
    refine round_end (k + 1) hlt (by omega) ⟨?_, ⟨?_, trivial⟩, rfl, rfl⟩
    · have e := step_i hlt hp'
      repeat ((conv => whnf); first | refine ⟨e, ?_⟩ | refine ⟨rfl, ?_⟩)
      trivial
    · have e3 : (match (fillLV Per.lv zPer ps k)[k]? with | some z => (fillLV Per.lv zPer ps k).set k (setP z [] ps[k].lv) | none => fillLV Per.lv zPer ps k) = fillLV Per.lv zPer ps (k + 1) := by
        rw [fill_get hlt]
        simp only [zPer, setP]
        exact fill_set hlt
      exact congrArg (Blk.arr 85 6) e3
  · have h3 : ps.length ≤ k := by rw [ltI_f] at h1; simp at h1; omega
    have h4 : k = ps.length := by omega
    subst h4
    ((repeat ((conv => whnf); first | refine brT ?_ | refine brF ?_)); conv => whnf)
    exact ⟨[.hs 0 ps.length], rfl, rfl, .inl ⟨⟨rfl, trivial⟩, ⟨congrArg (Blk.arr 85 6) fill_all, trivial⟩, rfl, rfl⟩⟩
theorem toUnionS_h (ps : List Uni) (hb : 32 * ps.length ≤ 281474976710656) : HSpec env.P 36 [.sl (ps.map Uni.lv)] [] (.hs 0 ps.length) [.arr 98 4 (ps.map Uni.lv)] := by
  refine HSpec_of_code (E := env.x [] 0) env_ok.x (fn := Tryz.f36) Tryz.func36 rfl Tryz.call36 _ _ _ _ ?_
  ((repeat ((conv => whnf); first | refine brT ?_ | refine brF ?_)); conv => whnf)
  intro hp
  have hp' : ps.length ≤ Go.maxLen := by simpa using hp
  ((repeat ((conv => whnf); first | refine brT ?_ | refine brF ?_)); conv => whnf)
  refine ⟨ps.length, by simp, by simp, hb, hp', rfl, by decide, ?_⟩
  ((repeat ((conv => whnf); first | refine brT ?_ | refine brF ?_)); conv => whnf)
  refine loop_rule (α := Nat) (fun k => [(4, .int .i64 (k : Int))]) (fun k => [.arr 98 4 (fillLV Uni.lv zUni ps k)]) (fun k => ps.length - k) (fun k => k ≤ ps.length) 0 (Nat.zero_le _) ?_ ?_
  · refine ⟨?_, ⟨by simp [zUni, fillLV], trivial⟩, rfl, rfl⟩
    repeat ((conv => whnf); refine ⟨rfl, ?_⟩)
    trivial
  rintro k hk
  ((repeat ((conv => whnf); first | refine brT ?_ | refine brF ?_)); conv => whnf)
  intro _
  ((repeat ((conv => whnf); first | refine brT ?_ | refine brF ?_)); conv => whnf)
  refine ⟨fun h1 => ?_, fun h1 => ?_⟩ <;> rw [h1]
  · have hlt : k < ps.length := by rw [ltI_t] at h1; simp at h1; omega
    ((repeat ((conv => whnf); first | refine brT ?_ | refine brF ?_)); conv => whnf)
    refine ⟨k, ps[k].lv, rfl, by simp [hlt], rfl, ?_⟩
    ((repeat ((conv => whnf); first | refine brT ?_ | refine brF ?_)); conv => whnf)
    refine ⟨_, toUnion_spec ps[k], ?_⟩
    ((repeat ((conv => whnf); first | refine brT ?_ | refine brF ?_)); conv => whnf)
    refine ⟨(fill_len hk).symm, rfl, k, rfl, by rw [fill_len hk]; exact hlt, ?_⟩
    ((repeat ((conv => whnf); first | refine brT ?_ | refine brF ?_)); conv => whnf)
    refine ⟨(fill_len hk).symm, k, [], zUni, rfl, by simp [getP, fill_get hlt], rfl, rfl, rfl, _, rfl, ?_⟩
    ((repeat ((conv => whnf); first | refine brT ?_ | refine brF ?_)); conv => whnf)
    refine round_end (k + 1) hlt (by omega) ⟨?_, ⟨?_, trivial⟩, rfl, rfl⟩
    · have e := step_i hlt hp'
      repeat ((conv => whnf); first | refine ⟨e, ?_⟩ | refine ⟨rfl, ?_⟩)
      trivial
    · have e3 : (match (fillLV Uni.lv zUni ps k)[k]? with | some z => (fillLV Uni.lv zUni ps k).set k (setP z [] ps[k].lv) | none => fillLV Uni.lv zUni ps k) = fillLV Uni.lv zUni ps (k + 1) := by
        rw [fill_get hlt]
        simp only [zUni, setP]
        exact fill_set hlt
      exact congrArg (Blk.arr 98 4) e3
  · have h3 : ps.length ≤ k := by rw [ltI_f] at h1; simp at h1; omega
    have h4 : k = ps.length := by omega
    subst h4
    ((repeat ((conv => whnf); first | refine brT ?_ | refine brF ?_)); conv => whnf)
    exact ⟨[.hs 0 ps.length], rfl, rfl, .inl ⟨⟨rfl, trivial⟩, ⟨congrArg (Blk.arr 98 4) fill_all, trivial⟩, rfl, rfl⟩⟩

def famHS (a b : Nat) : LV := .st [.hs 0 a, .hs 1 b]
theorem toFamily_h (ps : List Per) (us : List Uni) (hp : 56 * ps.length ≤ 281474976710656) (hu : 32 * us.length ≤ 281474976710656) :
    HSpec env.P 8 [famLV ps us] [] (famHS ps.length us.length) [.arr 85 6 (ps.map Per.lv), .arr 98 4 (us.map Uni.lv)] := by
  refine HSpec_of_code (E := env.x [35, 36] 0) env_ok.x (fn := Tryz.f8) Tryz.func8 rfl Tryz.call8 _ _ _ _ ?_
  ((repeat ((conv => whnf); first | refine brT ?_ | refine brF ?_)); conv => whnf)
  refine ⟨[], _, _, _, _, toPersonS_h ps hp, rfl, rfl, rfl, trivial, ?_⟩
  ((repeat ((conv => whnf); first | refine brT ?_ | refine brF ?_)); conv => whnf)
  refine ⟨[], _, _, _, _, toUnionS_h us hu, rfl, rfl, rfl, trivial, ?_⟩
  ((repeat ((conv => whnf); first | refine brT ?_ | refine brF ?_)); conv => whnf)
  refine ⟨[famHS ps.length us.length], rfl, rfl, .inr ⟨[.old 3, .old 4], ?_, ?_, rfl⟩⟩
  · ((repeat ((conv => whnf); refine ⟨rfl, rfl, ?_⟩)); trivial)
  · exact ⟨rfl, rfl, rfl, rfl, trivial⟩
end Go.Proofs.YtdhmnojnkgmmnaaGreat


namespace Go.Proofs.YtdhmnojnkgmmnaaGreat
open Go.Lg
set_option maxHeartbeats 1600000
set_option maxRecDepth 10000
set_option linter.unusedVariables false
set_option linter.unusedSimpArgs false

def markUni (k : Nat) : Uni := ⟨(k : Int), (k : Int) + 1, (k : Int) + 2, (k : Int) + 3⟩
def markUnis (k : Nat) : Nat → List Uni
  | 0 => []
  | n + 1 => markUnis k n ++ [markUni (k + 4 * n)]
theorem markUnis_len (k : Nat) : ∀ n, (markUnis k n).length = n
  | 0 => rfl
  | n + 1 => by simp [markUnis, markUnis_len k n]
def rowUM (k : Nat) (ps : List Uni) (i : Nat) : List LV := (markUnis k i ++ ps.drop i).map Uni.lv
theorem rowUM_len {k : Nat} {ps : List Uni} {i : Nat} (h : i ≤ ps.length) : (rowUM k ps i).length = ps.length := by simp [rowUM, markUnis_len]; omega
theorem rowUM_get {k : Nat} {ps : List Uni} {i : Nat} (h : i < ps.length) : (rowUM k ps i)[i]? = some ps[i].lv := by
  unfold rowUM
  rw [List.getElem?_map, List.getElem?_append_right (by rw [markUnis_len]; exact Nat.le_refl _), markUnis_len, Nat.sub_self, List.getElem?_drop, Nat.add_zero, List.getElem?_eq_getElem h]
  rfl
theorem rowUM_set {k : Nat} {ps : List Uni} {i : Nat} (h : i < ps.length) : (rowUM k ps i).set i (markUni (k + 4 * i)).lv = rowUM k ps (i + 1) := by
  unfold rowUM
  rw [List.drop_eq_getElem_cons h, List.map_append, List.map_cons, List.set_append_right _ _ (by simp [markUnis_len])]
  simp [markUnis, markUnis_len]

theorem markUnionS_spec (ps : List Uni) (n : Nat) (hn : n = (ps.map Uni.lv).length) (k : Nat) (h1 : k + 4 * ps.length ≤ 2305843009213693952) :
    HSpec env.P 45 [.hs 0 n, .int .i64 (k : Int)] [.arr 98 4 (ps.map Uni.lv)] (.int .i64 ((k + 4 * ps.length : Nat) : Int)) [.arr 98 4 ((markUnis k ps.length).map Uni.lv)] := by
  subst hn
  refine HSpec_of_code (E := env.x [] 1) env_ok.x (fn := Tryz.f45) Tryz.func45 rfl Tryz.call45 _ _ _ _ ?_
  ((repeat ((conv => whnf); first | refine brT ?_ | refine brF ?_)); conv => whnf)
  refine loop_rule (α := Nat) (fun i => [(5, .int .i64 (i : Int)), (1, .int .i64 ((k + 4 * i : Nat) : Int)), (0, .hs 0 (rowUM k ps i).length)]) (fun i => [.arr 98 4 (rowUM k ps i)]) (fun i => ps.length - i) (fun i => i ≤ ps.length) 0 (Nat.zero_le _) ?_ ?_
  · have e0 : ps.map Uni.lv = rowUM k ps 0 := by simp [rowUM, markUnis]
    have e1 : LV.hs 0 (ps.map Uni.lv).length = LV.hs 0 (rowUM k ps 0).length := by rw [e0]
    refine ⟨?_, ⟨congrArg (Blk.arr 98 4) e0, trivial⟩, rfl, rfl⟩
    ((repeat ((conv => whnf); first | refine ⟨e1, ?_⟩ | refine ⟨rfl, ?_⟩)); trivial)
  intro i hi
  have hl := rowUM_len (k := k) hi
  ((repeat ((conv => whnf); first | refine brT ?_ | refine brF ?_)); conv => whnf)
  refine ⟨rfl, fun hm => ?_⟩
  have hm' : ps.length ≤ Go.maxLen := by rw [← hl]; exact hm
  ((repeat ((conv => whnf); first | refine brT ?_ | refine brF ?_)); conv => whnf)
  (refine ⟨fun g1 => ?_, fun g1 => ?_⟩ <;> rw [g1])
  · have hlt : i < ps.length := by rw [ltI_t] at g1; omega
    have e := step_i hlt hm'
    have hiL : i < (rowUM k ps i).length := by omega
    have hg := rowUM_get (k := k) hlt
    have hset := rowUM_set (k := k) hlt
    have w0 : IntKind.i64.wrap (((k + 4 * i : Nat) : Int) + 1) = ((k + 4 * i : Nat) : Int) + 1 := wrap64 (by omega) (by omega)
    have w1 : IntKind.i64.wrap (((k + 4 * i : Nat) : Int) + 1 + 1) = ((k + 4 * i : Nat) : Int) + 2 := by rw [wrap64 (by omega) (by omega)]; omega
    have w2 : IntKind.i64.wrap (((k + 4 * i : Nat) : Int) + 2 + 1) = ((k + 4 * i : Nat) : Int) + 3 := by rw [wrap64 (by omega) (by omega)]; omega
    have w3 : IntKind.i64.wrap (((k + 4 * i : Nat) : Int) + 3 + 1) = ((k + 4 * (i + 1) : Nat) : Int) := by rw [wrap64 (by omega) (by omega)]; omega
    have hlen : ∀ x : LV, (rowUM k ps i).length = ((rowUM k ps i).set i x).length := fun x => by simp
    generalize ps[i] = p at hg hset
    generalize hK : ((k + 4 * i : Nat) : Int) = kk at w0 w1 w2 w3 ⊢
    have hfin : (rowUM k ps i).set i (.st [.int .i64 kk, .int .i64 (kk + 1), .int .i64 (kk + 2), .int .i64 (kk + 3)]) = rowUM k ps (i + 1) := by
      rw [← hset]; unfold markUni Uni.lv; rw [hK]
    generalize rowUM k ps i = L at hl hm hiL hg hlen hfin g1 ⊢
    have hgp : getP (.st L) [i] = some (.st [LV.int .i64 p.husband, LV.int .i64 p.wife, LV.int .i64 p.since, LV.int .i64 p.till]) := by simp [getP, hg, Uni.lv]
    have hgp0 : getP (.st L) [i, 0] = some (.int .i64 p.husband) := by simp [getP, hg, Uni.lv]
    ((repeat ((conv => whnf); first | refine brT ?_ | refine brF ?_)); conv => whnf)
    refine ⟨rfl, rfl, i, rfl, hiL, ?_⟩
    ((repeat ((conv => whnf); first | refine brT ?_ | refine brF ?_)); conv => whnf)
    refine ⟨rfl, by simp, [LV.int .i64 p.husband, LV.int .i64 p.wife, LV.int .i64 p.since, LV.int .i64 p.till], hgp, rfl, by simp, ?_⟩
    ((repeat ((conv => whnf); first | refine brT ?_ | refine brF ?_)); conv => whnf)
    refine ⟨rfl, i, [0], .int .i64 p.husband, rfl, hgp0, rfl, rfl, rfl, L.set i (.st [.int .i64 kk, .int .i64 p.wife, .int .i64 p.since, .int .i64 p.till]), by rw [hg]; rfl, ?_⟩
    ((repeat ((conv => whnf); first | refine brT ?_ | refine brF ?_)); conv => whnf)
    rw [w0]
    refine ⟨hlen _, rfl, i, rfl, by simpa using hiL, ?_⟩
    ((repeat ((conv => whnf); first | refine brT ?_ | refine brF ?_)); conv => whnf)
    refine ⟨hlen _, by simp, _, fw_get hiL _, rfl, by simp, ?_⟩
    ((repeat ((conv => whnf); first | refine brT ?_ | refine brF ?_)); conv => whnf)
    refine ⟨hlen _, i, [1], _, rfl, fw_get2 hiL rfl, rfl, rfl, rfl, _, fw_set hiL rfl (.int .i64 (kk + 1)), ?_⟩
    ((repeat ((conv => whnf); first | refine brT ?_ | refine brF ?_)); conv => whnf)
    rw [w1]
    refine ⟨hlen _, rfl, i, rfl, by simpa using hiL, ?_⟩
    ((repeat ((conv => whnf); first | refine brT ?_ | refine brF ?_)); conv => whnf)
    refine ⟨hlen _, by simp, _, fw_get hiL _, rfl, by simp, ?_⟩
    ((repeat ((conv => whnf); first | refine brT ?_ | refine brF ?_)); conv => whnf)
    refine ⟨hlen _, i, [2], _, rfl, fw_get2 hiL rfl, rfl, rfl, rfl, _, fw_set hiL rfl (.int .i64 (kk + 2)), ?_⟩
    ((repeat ((conv => whnf); first | refine brT ?_ | refine brF ?_)); conv => whnf)
    rw [w2]
    refine ⟨hlen _, rfl, i, rfl, by simpa using hiL, ?_⟩
    ((repeat ((conv => whnf); first | refine brT ?_ | refine brF ?_)); conv => whnf)
    refine ⟨hlen _, by simp, _, fw_get hiL _, rfl, by simp, ?_⟩
    ((repeat ((conv => whnf); first | refine brT ?_ | refine brF ?_)); conv => whnf)
    refine ⟨hlen _, i, [3], _, rfl, fw_get2 hiL rfl, rfl, rfl, rfl, _, fw_set hiL rfl (.int .i64 (kk + 3)), ?_⟩
    ((repeat ((conv => whnf); first | refine brT ?_ | refine brF ?_)); conv => whnf)
    have e5 : LV.hs 0 L.length = LV.hs 0 (rowUM k ps (i + 1)).length := by rw [hl, rowUM_len (by omega)]
    have e6 : LV.int .i64 (IntKind.i64.wrap (kk + 3 + 1)) = LV.int .i64 ((k + 4 * (i + 1) : Nat) : Int) := by rw [w3]
    refine round_end (i + 1) hlt (by omega) ⟨?_, ⟨congrArg (Blk.arr 98 4) hfin, trivial⟩, rfl, rfl⟩
    repeat ((conv => whnf); first | refine ⟨e, ?_⟩ | refine ⟨e6, ?_⟩ | refine ⟨e5, ?_⟩ | refine ⟨rfl, ?_⟩)
    trivial
  · have h3 : i = ps.length := by rw [ltI_f] at g1; omega
    subst h3
    ((repeat ((conv => whnf); first | refine brT ?_ | refine brF ?_)); conv => whnf)
    exact ⟨[.int .i64 ((k + 4 * ps.length : Nat) : Int)], rfl, rfl, .inl ⟨⟨rfl, trivial⟩, ⟨by simp [rowUM], trivial⟩, rfl, rfl⟩⟩

theorem markFamily_spec (ps : List Per) (us : List Uni) (k : Nat) (h1 : k + 6 * ps.length + 4 * us.length ≤ 2305843009213693952) :
    HSpec env.P 14 [famHS ps.length us.length, .int .i64 (k : Int)] [.arr 85 6 (ps.map Per.lv), .arr 98 4 (us.map Uni.lv)] (.int .i64 ((k + 6 * ps.length + 4 * us.length : Nat) : Int))
      [.arr 85 6 ((markPers k ps.length).map Per.lv), .arr 98 4 ((markUnis (k + 6 * ps.length) us.length).map Uni.lv)] := by
  refine HSpec_of_code (E := env.x [44, 45] 2) env_ok.x (fn := Tryz.f14) Tryz.func14 rfl Tryz.call14 _ _ _ _ ?_
  ((repeat ((conv => whnf); first | refine brT ?_ | refine brF ?_)); conv => whnf)
  refine ⟨[0], _, _, _, _, markPersonS_spec ps ps.length (by simp) k (by omega), rfl, rfl, rfl, trivial, ?_⟩
  ((repeat ((conv => whnf); first | refine brT ?_ | refine brF ?_)); conv => whnf)
  refine ⟨[1], _, _, _, _, markUnionS_spec us us.length (by simp) (k + 6 * ps.length) (by omega), rfl, rfl, rfl, trivial, ?_⟩
  ((repeat ((conv => whnf); first | refine brT ?_ | refine brF ?_)); conv => whnf)
  exact ⟨[.int .i64 ((k + 6 * ps.length + 4 * us.length : Nat) : Int)], rfl, rfl, .inl ⟨⟨rfl, trivial⟩, ⟨rfl, rfl, trivial⟩, rfl, rfl⟩⟩

theorem toFamily_hm (ps : List Per) (us : List Uni) (hp : 56 * ps.length ≤ 281474976710656) (hu : 32 * us.length ≤ 281474976710656) :
    HSpec env.P 8 [famLV ps us] [] (famHS (ps.map Per.lv).length (us.map Uni.lv).length) [.arr 85 6 (ps.map Per.lv), .arr 98 4 (us.map Uni.lv)] := by
  rw [List.length_map, List.length_map]; exact toFamily_h ps us hp hu
theorem markFamily_hm (ps : List Per) (us : List Uni) (k : Nat) (h1 : k + 6 * ps.length + 4 * us.length ≤ 2305843009213693952) :
    HSpec env.P 14 [famHS (ps.map Per.lv).length (us.map Uni.lv).length, .int .i64 (k : Int)] [.arr 85 6 (ps.map Per.lv), .arr 98 4 (us.map Uni.lv)] (.int .i64 ((k + 6 * ps.length + 4 * us.length : Nat) : Int))
      [.arr 85 6 ((markPers k ps.length).map Per.lv), .arr 98 4 ((markUnis (k + 6 * ps.length) us.length).map Uni.lv)] := by
  rw [List.length_map, List.length_map]; exact markFamily_spec ps us k h1
end Go.Proofs.YtdhmnojnkgmmnaaGreat


namespace Go.Proofs.YtdhmnojnkgmmnaaGreat
open Go.Lg
set_option maxHeartbeats 1600000
set_option maxRecDepth 10000
set_option linter.unusedVariables false
set_option linter.unusedSimpArgs false

theorem known_len (p : Per) : (known p).length ≤ 2 := knownTo_len p 2
end Go.Proofs.YtdhmnojnkgmmnaaGreat

namespace Go.Proofs.YtdhmnojnkgmmnaaGreat
open Go.Lg
set_option maxHeartbeats 1600000
set_option maxRecDepth 10000
set_option linter.unusedVariables false
set_option linter.unusedSimpArgs false

/-! A table that is filled row by row. -/
def doneP (N : Nat) (V : Nat → Nat → Bool) (k i : Nat) : Nat → Nat → Bool := fun a b => decide ((a < k ∧ b < N) ∨ (a = k ∧ b < i)) && V a b
theorem doneP_zero (N : Nat) (V : Nat → Nat → Bool) : doneP N V 0 0 = fun _ _ => false := by funext a b; simp [doneP]
theorem doneP_put {N : Nat} {V : Nat → Nat → Bool} {k i : Nat} (hi : i < N) : putP (doneP N V k i) k i (V k i) = doneP N V k (i + 1) := by
  funext a b
  unfold putP doneP
  by_cases h : a = k ∧ b = i
  · obtain ⟨rfl, rfl⟩ := h; simp
  · rw [if_neg h]
    congr 1
    rw [decide_eq_decide]
    constructor
    · rintro (h1 | h1)
      · exact .inl h1
      · exact .inr ⟨h1.1, by omega⟩
    · rintro (h1 | h1)
      · exact .inl h1
      · exact .inr ⟨h1.1, by omega⟩
theorem doneP_skip {N : Nat} {V : Nat → Nat → Bool} {k i : Nat} (hi : i < N) (h : V k i = false) : doneP N V k i = doneP N V k (i + 1) := by
  rw [← doneP_put hi, h]
  funext a b
  unfold putP
  by_cases e : a = k ∧ b = i
  · obtain ⟨rfl, rfl⟩ := e; rw [if_pos ⟨rfl, rfl⟩]; simp [doneP, h]
  · rw [if_neg e]
theorem doneP_row (N : Nat) (V : Nat → Nat → Bool) (k : Nat) : doneP N V k N = doneP N V (k + 1) 0 := by
  funext a b
  unfold doneP
  congr 1
  rw [decide_eq_decide]
  omega
theorem doneP_all (N : Nat) (V : Nat → Nat → Bool) : ∀ a, a < N → ∀ b, b < N → doneP N V N 0 a b = V a b := fun a ha b hb => by simp [doneP, ha, hb]

/-! ### Steps in a family, as the model has them -/
theorem l1Other_spec (u : Uni) (a : Int) : FSpec env.P 147 [u.lv, .int .i64 a]
    (match eqI u.husband a with | true => .tup [.int .i64 u.wife, .bool true] | false => .tup [.int .i64 u.husband, .bool (eqI u.wife a)]) := by
  refine FSpec_of_code env_ok (fn := Tryz.f147) Tryz.func147 rfl Tryz.call147 _ _ ?_
  ((repeat ((conv => whnf); first | refine brT ?_ | refine brF ?_)); conv => whnf)
  (refine ⟨fun h => ?_, fun h => ?_⟩ <;> rw [h])
  · ((repeat ((conv => whnf); first | refine brT ?_ | refine brF ?_)); conv => whnf); repeat' (first | rfl | (refine And.intro ?_ ?_) | exact List.nodup_nil)
  · ((repeat ((conv => whnf); first | refine brT ?_ | refine brF ?_)); conv => whnf)
    refine ⟨true, by kernel_rfl, ?_⟩
    ((repeat ((conv => whnf); first | refine brT ?_ | refine brF ?_)); conv => whnf)
    repeat' (first | rfl | (refine And.intro ?_ ?_) | exact List.nodup_nil)
def fullB (x y : Per) (a b : Int) : Bool := notB (eqI a b) && (leI 0 x.father && (leI 0 x.mother && (eqI x.father y.father && eqI x.mother y.mother)))
theorem l1Full_spec (ps : List Per) (us : List Uni) (a b : Nat) (ha : a < ps.length) (hb : b < ps.length) :
    FSpec env.P 149 [famLV ps us, .int .i64 (a : Int), .int .i64 (b : Int)] (.bool (fullB ps[a] ps[b] a b)) := by
  refine FSpec_of_code env_ok (fn := Tryz.f149) Tryz.func149 rfl Tryz.call149 _ _ ?_
  ((repeat ((conv => whnf); first | refine brT ?_ | refine brF ?_)); conv => whnf)
  refine ⟨a, ps[a].lv, rfl, by simp [ha], rfl, ?_⟩
  ((repeat ((conv => whnf); first | refine brT ?_ | refine brF ?_)); conv => whnf)
  refine ⟨b, ps[b].lv, rfl, by simp [hb], rfl, ?_⟩
  ((repeat' (((repeat ((conv => whnf); first | refine brT ?_ | refine brF ?_)); conv => whnf); (refine And.intro ?_ ?_ <;> (intro h; rw [h]; revert h; intro _)))); all_goals ((repeat ((conv => whnf); first | refine brT ?_ | refine brF ?_)); conv => whnf))
  all_goals (refine fin ?_; simp [fullB, *])
def wedB (a b : Int) (u : Uni) : Bool := match eqI u.husband a with | true => eqI u.wife b | false => eqI u.wife a && eqI u.husband b
def ageB (ps : List Per) (g a b : Int) : Bool := (notB (eqI g 1) || elder ps b a) && (notB (eqI g 2) || elder ps a b)
def kinB (ps : List Per) (us : List Uni) (k g : Int) (x y : Per) (a b : Int) : Bool := match eqI k 1 with
  | true => eqI x.father b
  | false => match eqI k 2 with
    | true => eqI x.mother b
    | false => match eqI k 5 || eqI k 6 with
      | true => eqI y.father a || eqI y.mother a
      | false => match eqI k 7 || eqI k 8 with
        | true => us.any (wedB a b)
        | false => ageB ps g a b && fullB x y a b
def l3P (ps : List Per) (us : List Uni) (s : Pr) (a b : Nat) : Bool := match ps[a]?, ps[b]? with
  | some x, some y => eqI y.sex (sxOf s.a) && kinB ps us s.a s.b x y a b
  | _, _ => false
end Go.Proofs.YtdhmnojnkgmmnaaGreat


namespace Go.Proofs.YtdhmnojnkgmmnaaGreat
open Go.Lg
set_option maxHeartbeats 6400000
set_option maxRecDepth 10000
set_option linter.unusedVariables false
set_option linter.unusedSimpArgs false

theorem l3Leads_no (ps : List Per) (us : List Uni) (s : Pr) (a b : Nat) (ha : a < ps.length) (hb : b < ps.length) (h : eqI ps[b].sex (sxOf s.a) = false) :
    FSpec env.P 114 [famLV ps us, s.lv, .int .i64 (a : Int), .int .i64 (b : Int)] (.bool (l3P ps us s a b)) := by
  have hV : l3P ps us s a b = (eqI ps[b].sex (sxOf s.a) && kinB ps us s.a s.b ps[a] ps[b] a b) := by simp [l3P, ha, hb]
  refine FSpec_of_code env_ok (fn := Tryz.f114) Tryz.func114 rfl Tryz.call114 _ _ ?_
  ((repeat ((conv => whnf); first | refine brT ?_ | refine brF ?_)); conv => whnf)
  refine ⟨a, ps[a].lv, rfl, by simp [ha], rfl, ?_⟩
  ((repeat ((conv => whnf); first | refine brT ?_ | refine brF ?_)); conv => whnf)
  refine ⟨b, ps[b].lv, rfl, by simp [hb], rfl, ?_⟩
  ((repeat ((conv => whnf); first | refine brT ?_ | refine brF ?_)); conv => whnf)
  refine ⟨true, by kernel_rfl, ?_⟩
  ((repeat ((conv => whnf); first | refine brT ?_ | refine brF ?_)); conv => whnf)
  refine ⟨_, l3Sex_spec _, ?_⟩
  ((repeat ((conv => whnf); first | refine brT ?_ | refine brF ?_)); conv => whnf)
  rw [h, show notB false = true by simp [notB]]
  ((repeat ((conv => whnf); first | refine brT ?_ | refine brF ?_)); conv => whnf)
  refine fin ?_
  simp [hV, h]
end Go.Proofs.YtdhmnojnkgmmnaaGreat


namespace Go.Proofs.YtdhmnojnkgmmnaaGreat
open Go.Lg
set_option maxHeartbeats 6400000
set_option maxRecDepth 10000
set_option linter.unusedVariables false
set_option linter.unusedSimpArgs false

theorem l3Leads_kin (ps : List Per) (us : List Uni) (s : Pr) (a b : Nat) (ha : a < ps.length) (hb : b < ps.length) (h : eqI ps[b].sex (sxOf s.a) = true) (hk : (eqI s.a 1 || eqI s.a 2 || eqI s.a 5 || eqI s.a 6) = true) :
    FSpec env.P 114 [famLV ps us, s.lv, .int .i64 (a : Int), .int .i64 (b : Int)] (.bool (l3P ps us s a b)) := by
  have hV : l3P ps us s a b = (eqI ps[b].sex (sxOf s.a) && kinB ps us s.a s.b ps[a] ps[b] a b) := by simp [l3P, ha, hb]
  refine FSpec_of_code env_ok (fn := Tryz.f114) Tryz.func114 rfl Tryz.call114 _ _ ?_
  ((repeat ((conv => whnf); first | refine brT ?_ | refine brF ?_)); conv => whnf)
  refine ⟨a, ps[a].lv, rfl, by simp [ha], rfl, ?_⟩
  ((repeat ((conv => whnf); first | refine brT ?_ | refine brF ?_)); conv => whnf)
  refine ⟨b, ps[b].lv, rfl, by simp [hb], rfl, ?_⟩
  ((repeat ((conv => whnf); first | refine brT ?_ | refine brF ?_)); conv => whnf)
  refine ⟨true, by kernel_rfl, ?_⟩
  ((repeat ((conv => whnf); first | refine brT ?_ | refine brF ?_)); conv => whnf)
  refine ⟨_, l3Sex_spec _, ?_⟩
  ((repeat ((conv => whnf); first | refine brT ?_ | refine brF ?_)); conv => whnf)
  rw [h, show notB true = false by simp [notB]]
  ((repeat ((conv => whnf); first | refine brT ?_ | refine brF ?_)); conv => whnf)
  (refine ⟨fun h1 => ?_, fun h1 => ?_⟩ <;> rw [h1])
  · ((repeat ((conv => whnf); first | refine brT ?_ | refine brF ?_)); conv => whnf)
    refine fin ?_
    simp [hV, h, kinB, h1]
  ((repeat ((conv => whnf); first | refine brT ?_ | refine brF ?_)); conv => whnf)
  (refine ⟨fun h2 => ?_, fun h2 => ?_⟩ <;> rw [h2])
  · ((repeat ((conv => whnf); first | refine brT ?_ | refine brF ?_)); conv => whnf)
    refine fin ?_
    simp [hV, h, kinB, h1, h2]
  ((repeat ((conv => whnf); first | refine brT ?_ | refine brF ?_)); conv => whnf)
  (refine ⟨fun h5 => ?_, fun h5 => ?_⟩ <;> rw [h5])
  · ((repeat ((conv => whnf); first | refine brT ?_ | refine brF ?_)); conv => whnf)
    (refine ⟨fun h9 => ?_, fun h9 => ?_⟩ <;> rw [h9])
    · ((repeat ((conv => whnf); first | refine brT ?_ | refine brF ?_)); conv => whnf)
      refine fin ?_
      simp [hV, h, kinB, h1, h2, h5, h9]
    · ((repeat ((conv => whnf); first | refine brT ?_ | refine brF ?_)); conv => whnf)
      refine fin ?_
      simp [hV, h, kinB, h1, h2, h5, h9]
  have h6 : eqI s.a 6 = true := by simpa [h1, h2, h5] using hk
  ((repeat ((conv => whnf); first | refine brT ?_ | refine brF ?_)); conv => whnf)
  rw [h6]
  ((repeat ((conv => whnf); first | refine brT ?_ | refine brF ?_)); conv => whnf)
  (refine ⟨fun h9 => ?_, fun h9 => ?_⟩ <;> rw [h9])
  · ((repeat ((conv => whnf); first | refine brT ?_ | refine brF ?_)); conv => whnf)
    refine fin ?_
    simp [hV, h, kinB, h1, h2, h5, h6, h9]
  · ((repeat ((conv => whnf); first | refine brT ?_ | refine brF ?_)); conv => whnf)
    refine fin ?_
    simp [hV, h, kinB, h1, h2, h5, h6, h9]
end Go.Proofs.YtdhmnojnkgmmnaaGreat


namespace Go.Proofs.YtdhmnojnkgmmnaaGreat
open Go.Lg
set_option maxHeartbeats 6400000
set_option maxRecDepth 10000
set_option linter.unusedVariables false
set_option linter.unusedSimpArgs false

theorem l3Leads_wed7 (ps : List Per) (us : List Uni) (s : Pr) (a b : Nat) (ha : a < ps.length) (hb : b < ps.length) (h : eqI ps[b].sex (sxOf s.a) = true) (h1 : eqI s.a 1 = false) (h2 : eqI s.a 2 = false) (h5 : eqI s.a 5 = false) (h6 : eqI s.a 6 = false) (h7 : eqI s.a 7 = true) :
    FSpec env.P 114 [famLV ps us, s.lv, .int .i64 (a : Int), .int .i64 (b : Int)] (.bool (l3P ps us s a b)) := by
  have hV : l3P ps us s a b = (eqI ps[b].sex (sxOf s.a) && kinB ps us s.a s.b ps[a] ps[b] a b) := by simp [l3P, ha, hb]
  refine FSpec_of_code env_ok (fn := Tryz.f114) Tryz.func114 rfl Tryz.call114 _ _ ?_
  ((repeat ((conv => whnf); first | refine brT ?_ | refine brF ?_)); conv => whnf)
  refine ⟨a, ps[a].lv, rfl, by simp [ha], rfl, ?_⟩
  ((repeat ((conv => whnf); first | refine brT ?_ | refine brF ?_)); conv => whnf)
  refine ⟨b, ps[b].lv, rfl, by simp [hb], rfl, ?_⟩
  ((repeat ((conv => whnf); first | refine brT ?_ | refine brF ?_)); conv => whnf)
  refine ⟨true, by kernel_rfl, ?_⟩
  ((repeat ((conv => whnf); first | refine brT ?_ | refine brF ?_)); conv => whnf)
  refine ⟨_, l3Sex_spec _, ?_⟩
  ((repeat ((conv => whnf); first | refine brT ?_ | refine brF ?_)); conv => whnf)
  rw [h, show notB true = false by simp [notB]]
  ((repeat ((conv => whnf); first | refine brT ?_ | refine brF ?_)); conv => whnf)
  rw [h1]
  ((repeat ((conv => whnf); first | refine brT ?_ | refine brF ?_)); conv => whnf)
  rw [h2]
  ((repeat ((conv => whnf); first | refine brT ?_ | refine brF ?_)); conv => whnf)
  rw [h5]
  ((repeat ((conv => whnf); first | refine brT ?_ | refine brF ?_)); conv => whnf)
  rw [h6]
  ((repeat ((conv => whnf); first | refine brT ?_ | refine brF ?_)); conv => whnf)
  rw [h7]
  have HK : (eqI ps[b].sex (sxOf s.a) && kinB ps us s.a s.b ps[a] ps[b] a b) = us.any (wedB a b) := by simp [h, kinB, h1, h2, h5, h6, h7]
  ((repeat ((conv => whnf); first | refine brT ?_ | refine brF ?_)); conv => whnf)
  intro hm
  have hm' : us.length ≤ Go.maxLen := by simpa using hm
  rw [show (List.map Uni.lv us).length = us.length by simp]
  ((repeat ((conv => whnf); first | refine brT ?_ | refine brF ?_)); conv => whnf)
  refine loop_rule (α := Nat) (fun k => [(64, .int .i64 (k : Int))]) (fun k => [.box (famLV ps us), .box s.lv, .box ps[a].lv, .box ps[b].lv]) (fun k => us.length - k) (fun k => k ≤ us.length ∧ (us.take k).any (wedB a b) = false) 0 ⟨Nat.zero_le _, rfl⟩ ?_ ?_
  · refine ⟨?_, ⟨rfl, rfl, rfl, rfl, trivial⟩, rfl, rfl⟩
    ((repeat ((conv => whnf); refine ⟨rfl, ?_⟩)); trivial)
  rintro k ⟨hk, hno⟩
  ((repeat ((conv => whnf); first | refine brT ?_ | refine brF ?_)); conv => whnf)
  (refine ⟨fun q => ?_, fun q => ?_⟩ <;> rw [q])
  · have hlt : k < us.length := by rw [ltI_t] at q; omega
    have e1 : LV.int .i64 (IntKind.i64.wrap ((k : Int) + 1)) = LV.int .i64 ((k + 1 : Nat) : Int) := step_i hlt hm'
    have hO := l1Other_spec us[k] (a : Int)
    have hyes : wedB a b us[k] = true → us.any (wedB a b) = true := fun hw => List.any_eq_true.2 ⟨us[k], by simp, hw⟩
    have hstep : wedB a b us[k] = false → (us.take (k + 1)).any (wedB a b) = false := fun hw => by rw [List.take_succ_eq_append_getElem hlt, List.any_append, hno]; simp [hw]
    ((repeat ((conv => whnf); first | refine brT ?_ | refine brF ?_)); conv => whnf)
    refine ⟨k, us[k].lv, rfl, by simp [hlt], rfl, ?_⟩
    ((repeat ((conv => whnf); first | refine brT ?_ | refine brF ?_)); conv => whnf)
    cases he : eqI us[k].husband (a : Int)
    · rw [he] at hO
      refine ⟨_, hO, ?_⟩
      ((repeat ((conv => whnf); first | refine brT ?_ | refine brF ?_)); conv => whnf)
      (refine ⟨fun q1 => ?_, fun q1 => ?_⟩ <;> rw [q1])
      · ((repeat ((conv => whnf); first | refine brT ?_ | refine brF ?_)); conv => whnf)
        (refine ⟨fun q2 => ?_, fun q2 => ?_⟩ <;> rw [q2])
        · ((repeat ((conv => whnf); first | refine brT ?_ | refine brF ?_)); conv => whnf)
          refine fin ?_
          rw [hV, HK, hyes (by simp [wedB, he, q1, q2])]
        · ((repeat ((conv => whnf); first | refine brT ?_ | refine brF ?_)); conv => whnf)
          refine round_end (k + 1) ⟨hlt, hstep (by simp [wedB, he, q1, q2])⟩ (by show us.length - (k + 1) < us.length - k; omega) ⟨?_, ⟨rfl, rfl, rfl, rfl, trivial⟩, rfl, rfl⟩
          ((repeat ((conv => whnf); first | refine ⟨e1, ?_⟩ | refine ⟨rfl, ?_⟩)); trivial)
      · ((repeat ((conv => whnf); first | refine brT ?_ | refine brF ?_)); conv => whnf)
        refine round_end (k + 1) ⟨hlt, hstep (by simp [wedB, he, q1])⟩ (by show us.length - (k + 1) < us.length - k; omega) ⟨?_, ⟨rfl, rfl, rfl, rfl, trivial⟩, rfl, rfl⟩
        ((repeat ((conv => whnf); first | refine ⟨e1, ?_⟩ | refine ⟨rfl, ?_⟩)); trivial)
    · rw [he] at hO
      refine ⟨_, hO, ?_⟩
      ((repeat ((conv => whnf); first | refine brT ?_ | refine brF ?_)); conv => whnf)
      (refine ⟨fun q2 => ?_, fun q2 => ?_⟩ <;> rw [q2])
      · ((repeat ((conv => whnf); first | refine brT ?_ | refine brF ?_)); conv => whnf)
        refine fin ?_
        rw [hV, HK, hyes (by simp [wedB, he, q2])]
      · ((repeat ((conv => whnf); first | refine brT ?_ | refine brF ?_)); conv => whnf)
        refine round_end (k + 1) ⟨hlt, hstep (by simp [wedB, he, q2])⟩ (by show us.length - (k + 1) < us.length - k; omega) ⟨?_, ⟨rfl, rfl, rfl, rfl, trivial⟩, rfl, rfl⟩
        ((repeat ((conv => whnf); first | refine ⟨e1, ?_⟩ | refine ⟨rfl, ?_⟩)); trivial)
  · have h3 : k = us.length := by rw [ltI_f] at q; omega
    subst h3
    rw [List.take_length] at hno
    ((repeat ((conv => whnf); first | refine brT ?_ | refine brF ?_)); conv => whnf)
    refine fin ?_
    rw [hV, HK, hno]
end Go.Proofs.YtdhmnojnkgmmnaaGreat


namespace Go.Proofs.YtdhmnojnkgmmnaaGreat
open Go.Lg
set_option maxHeartbeats 6400000
set_option maxRecDepth 10000
set_option linter.unusedVariables false
set_option linter.unusedSimpArgs false

theorem l3Leads_wed8 (ps : List Per) (us : List Uni) (s : Pr) (a b : Nat) (ha : a < ps.length) (hb : b < ps.length) (h : eqI ps[b].sex (sxOf s.a) = true) (h1 : eqI s.a 1 = false) (h2 : eqI s.a 2 = false) (h5 : eqI s.a 5 = false) (h6 : eqI s.a 6 = false) (h7 : eqI s.a 7 = false) (h8 : eqI s.a 8 = true) :
    FSpec env.P 114 [famLV ps us, s.lv, .int .i64 (a : Int), .int .i64 (b : Int)] (.bool (l3P ps us s a b)) := by
  have hV : l3P ps us s a b = (eqI ps[b].sex (sxOf s.a) && kinB ps us s.a s.b ps[a] ps[b] a b) := by simp [l3P, ha, hb]
  refine FSpec_of_code env_ok (fn := Tryz.f114) Tryz.func114 rfl Tryz.call114 _ _ ?_
  ((repeat ((conv => whnf); first | refine brT ?_ | refine brF ?_)); conv => whnf)
  refine ⟨a, ps[a].lv, rfl, by simp [ha], rfl, ?_⟩
  ((repeat ((conv => whnf); first | refine brT ?_ | refine brF ?_)); conv => whnf)
  refine ⟨b, ps[b].lv, rfl, by simp [hb], rfl, ?_⟩
  ((repeat ((conv => whnf); first | refine brT ?_ | refine brF ?_)); conv => whnf)
  refine ⟨true, by kernel_rfl, ?_⟩
  ((repeat ((conv => whnf); first | refine brT ?_ | refine brF ?_)); conv => whnf)
  refine ⟨_, l3Sex_spec _, ?_⟩
  ((repeat ((conv => whnf); first | refine brT ?_ | refine brF ?_)); conv => whnf)
  rw [h, show notB true = false by simp [notB]]
  ((repeat ((conv => whnf); first | refine brT ?_ | refine brF ?_)); conv => whnf)
  rw [h1]
  ((repeat ((conv => whnf); first | refine brT ?_ | refine brF ?_)); conv => whnf)
  rw [h2]
  ((repeat ((conv => whnf); first | refine brT ?_ | refine brF ?_)); conv => whnf)
  rw [h5]
  ((repeat ((conv => whnf); first | refine brT ?_ | refine brF ?_)); conv => whnf)
  rw [h6]
  ((repeat ((conv => whnf); first | refine brT ?_ | refine brF ?_)); conv => whnf)
  rw [h7]
  ((repeat ((conv => whnf); first | refine brT ?_ | refine brF ?_)); conv => whnf)
  rw [h8]
  have HK : (eqI ps[b].sex (sxOf s.a) && kinB ps us s.a s.b ps[a] ps[b] a b) = us.any (wedB a b) := by simp [h, kinB, h1, h2, h5, h6, h7, h8]
  ((repeat ((conv => whnf); first | refine brT ?_ | refine brF ?_)); conv => whnf)
  intro hm
  have hm' : us.length ≤ Go.maxLen := by simpa using hm
  rw [show (List.map Uni.lv us).length = us.length by simp]
  ((repeat ((conv => whnf); first | refine brT ?_ | refine brF ?_)); conv => whnf)
  refine loop_rule (α := Nat) (fun k => [(64, .int .i64 (k : Int))]) (fun k => [.box (famLV ps us), .box s.lv, .box ps[a].lv, .box ps[b].lv]) (fun k => us.length - k) (fun k => k ≤ us.length ∧ (us.take k).any (wedB a b) = false) 0 ⟨Nat.zero_le _, rfl⟩ ?_ ?_
  · refine ⟨?_, ⟨rfl, rfl, rfl, rfl, trivial⟩, rfl, rfl⟩
    ((repeat ((conv => whnf); refine ⟨rfl, ?_⟩)); trivial)
  rintro k ⟨hk, hno⟩
  ((repeat ((conv => whnf); first | refine brT ?_ | refine brF ?_)); conv => whnf)
  (refine ⟨fun q => ?_, fun q => ?_⟩ <;> rw [q])
  · have hlt : k < us.length := by rw [ltI_t] at q; omega
    have e1 : LV.int .i64 (IntKind.i64.wrap ((k : Int) + 1)) = LV.int .i64 ((k + 1 : Nat) : Int) := step_i hlt hm'
    have hO := l1Other_spec us[k] (a : Int)
    have hyes : wedB a b us[k] = true → us.any (wedB a b) = true := fun hw => List.any_eq_true.2 ⟨us[k], by simp, hw⟩
    have hstep : wedB a b us[k] = false → (us.take (k + 1)).any (wedB a b) = false := fun hw => by rw [List.take_succ_eq_append_getElem hlt, List.any_append, hno]; simp [hw]
    ((repeat ((conv => whnf); first | refine brT ?_ | refine brF ?_)); conv => whnf)
    refine ⟨k, us[k].lv, rfl, by simp [hlt], rfl, ?_⟩
    ((repeat ((conv => whnf); first | refine brT ?_ | refine brF ?_)); conv => whnf)
    cases he : eqI us[k].husband (a : Int)
    · rw [he] at hO
      refine ⟨_, hO, ?_⟩
      ((repeat ((conv => whnf); first | refine brT ?_ | refine brF ?_)); conv => whnf)
      (refine ⟨fun q1 => ?_, fun q1 => ?_⟩ <;> rw [q1])
      · ((repeat ((conv => whnf); first | refine brT ?_ | refine brF ?_)); conv => whnf)
        (refine ⟨fun q2 => ?_, fun q2 => ?_⟩ <;> rw [q2])
        · ((repeat ((conv => whnf); first | refine brT ?_ | refine brF ?_)); conv => whnf)
          refine fin ?_
          rw [hV, HK, hyes (by simp [wedB, he, q1, q2])]
        · ((repeat ((conv => whnf); first | refine brT ?_ | refine brF ?_)); conv => whnf)
          refine round_end (k + 1) ⟨hlt, hstep (by simp [wedB, he, q1, q2])⟩ (by show us.length - (k + 1) < us.length - k; omega) ⟨?_, ⟨rfl, rfl, rfl, rfl, trivial⟩, rfl, rfl⟩
          ((repeat ((conv => whnf); first | refine ⟨e1, ?_⟩ | refine ⟨rfl, ?_⟩)); trivial)
      · ((repeat ((conv => whnf); first | refine brT ?_ | refine brF ?_)); conv => whnf)
        refine round_end (k + 1) ⟨hlt, hstep (by simp [wedB, he, q1])⟩ (by show us.length - (k + 1) < us.length - k; omega) ⟨?_, ⟨rfl, rfl, rfl, rfl, trivial⟩, rfl, rfl⟩
        ((repeat ((conv => whnf); first | refine ⟨e1, ?_⟩ | refine ⟨rfl, ?_⟩)); trivial)
    · rw [he] at hO
      refine ⟨_, hO, ?_⟩
      ((repeat ((conv => whnf); first | refine brT ?_ | refine brF ?_)); conv => whnf)
      (refine ⟨fun q2 => ?_, fun q2 => ?_⟩ <;> rw [q2])
      · ((repeat ((conv => whnf); first | refine brT ?_ | refine brF ?_)); conv => whnf)
        refine fin ?_
        rw [hV, HK, hyes (by simp [wedB, he, q2])]
      · ((repeat ((conv => whnf); first | refine brT ?_ | refine brF ?_)); conv => whnf)
        refine round_end (k + 1) ⟨hlt, hstep (by simp [wedB, he, q2])⟩ (by show us.length - (k + 1) < us.length - k; omega) ⟨?_, ⟨rfl, rfl, rfl, rfl, trivial⟩, rfl, rfl⟩
        ((repeat ((conv => whnf); first | refine ⟨e1, ?_⟩ | refine ⟨rfl, ?_⟩)); trivial)
  · have h3 : k = us.length := by rw [ltI_f] at q; omega
    subst h3
    rw [List.take_length] at hno
    ((repeat ((conv => whnf); first | refine brT ?_ | refine brF ?_)); conv => whnf)
    refine fin ?_
    rw [hV, HK, hno]
end Go.Proofs.YtdhmnojnkgmmnaaGreat


namespace Go.Proofs.YtdhmnojnkgmmnaaGreat
open Go.Lg
set_option maxHeartbeats 6400000
set_option maxRecDepth 10000
set_option linter.unusedVariables false
set_option linter.unusedSimpArgs false

theorem l3Leads_sib (ps : List Per) (us : List Uni) (s : Pr) (a b : Nat) (ha : a < ps.length) (hb : b < ps.length) (h : eqI ps[b].sex (sxOf s.a) = true) (h1 : eqI s.a 1 = false) (h2 : eqI s.a 2 = false) (h5 : eqI s.a 5 = false) (h6 : eqI s.a 6 = false) (h7 : eqI s.a 7 = false) (h8 : eqI s.a 8 = false) :
    FSpec env.P 114 [famLV ps us, s.lv, .int .i64 (a : Int), .int .i64 (b : Int)] (.bool (l3P ps us s a b)) := by
  have hV : l3P ps us s a b = (eqI ps[b].sex (sxOf s.a) && kinB ps us s.a s.b ps[a] ps[b] a b) := by simp [l3P, ha, hb]
  refine FSpec_of_code env_ok (fn := Tryz.f114) Tryz.func114 rfl Tryz.call114 _ _ ?_
  ((repeat ((conv => whnf); first | refine brT ?_ | refine brF ?_)); conv => whnf)
  refine ⟨a, ps[a].lv, rfl, by simp [ha], rfl, ?_⟩
  ((repeat ((conv => whnf); first | refine brT ?_ | refine brF ?_)); conv => whnf)
  refine ⟨b, ps[b].lv, rfl, by simp [hb], rfl, ?_⟩
  ((repeat ((conv => whnf); first | refine brT ?_ | refine brF ?_)); conv => whnf)
  refine ⟨true, by kernel_rfl, ?_⟩
  ((repeat ((conv => whnf); first | refine brT ?_ | refine brF ?_)); conv => whnf)
  refine ⟨_, l3Sex_spec _, ?_⟩
  ((repeat ((conv => whnf); first | refine brT ?_ | refine brF ?_)); conv => whnf)
  rw [h, show notB true = false by simp [notB]]
  ((repeat ((conv => whnf); first | refine brT ?_ | refine brF ?_)); conv => whnf)
  rw [h1]
  ((repeat ((conv => whnf); first | refine brT ?_ | refine brF ?_)); conv => whnf)
  rw [h2]
  ((repeat ((conv => whnf); first | refine brT ?_ | refine brF ?_)); conv => whnf)
  rw [h5]
  ((repeat ((conv => whnf); first | refine brT ?_ | refine brF ?_)); conv => whnf)
  rw [h6]
  ((repeat ((conv => whnf); first | refine brT ?_ | refine brF ?_)); conv => whnf)
  rw [h7]
  ((repeat ((conv => whnf); first | refine brT ?_ | refine brF ?_)); conv => whnf)
  rw [h8]
  ((repeat ((conv => whnf); first | refine brT ?_ | refine brF ?_)); conv => whnf)
  have HK : (eqI ps[b].sex (sxOf s.a) && kinB ps us s.a s.b ps[a] ps[b] a b) = (ageB ps s.b a b && fullB ps[a] ps[b] a b) := by simp [h, kinB, h1, h2, h5, h6, h7, h8]
  rw [hV, HK]
  ((repeat' (((repeat ((conv => whnf); first | refine brT ?_ | refine brF ?_)); conv => whnf); first | (refine And.intro ?_ ?_ <;> (intro h; rw [h]; revert h; intro _)) | (refine Exists.intro true (And.intro (a := drawB _ _ = true) (by kernel_rfl) ?_)) | (refine Exists.intro _ (And.intro (l1Elder_spec ps us (b : Int) (a : Int) (by omega) (by simpa using hb) (by omega) (by simpa using ha)) ?_)) | (refine Exists.intro _ (And.intro (l1Elder_spec ps us (a : Int) (b : Int) (by omega) (by simpa using ha) (by omega) (by simpa using hb)) ?_)) | (refine Exists.intro _ (And.intro (l1Full_spec ps us a b ha hb) ?_)))); all_goals ((repeat ((conv => whnf); first | refine brT ?_ | refine brF ?_)); conv => whnf))
  all_goals (refine fin ?_; clear HK hV; unfold ageB; simp only [notB_d] at *; simp_all)
end Go.Proofs.YtdhmnojnkgmmnaaGreat


namespace Go.Proofs.YtdhmnojnkgmmnaaGreat
open Go.Lg
set_option maxHeartbeats 6400000
set_option maxRecDepth 10000
set_option linter.unusedVariables false
set_option linter.unusedSimpArgs false

theorem l3Leads_spec (ps : List Per) (us : List Uni) (s : Pr) (a b : Nat) (ha : a < ps.length) (hb : b < ps.length) :
    FSpec env.P 114 [famLV ps us, s.lv, .int .i64 (a : Int), .int .i64 (b : Int)] (.bool (l3P ps us s a b)) := by
  cases h : eqI ps[b].sex (sxOf s.a)
  · exact l3Leads_no ps us s a b ha hb h
  cases h1 : eqI s.a 1
  rotate_left
  · exact l3Leads_kin ps us s a b ha hb h (by simp [h1])
  cases h2 : eqI s.a 2
  rotate_left
  · exact l3Leads_kin ps us s a b ha hb h (by simp [h2])
  cases h5 : eqI s.a 5
  rotate_left
  · exact l3Leads_kin ps us s a b ha hb h (by simp [h5])
  cases h6 : eqI s.a 6
  rotate_left
  · exact l3Leads_kin ps us s a b ha hb h (by simp [h6])
  cases h7 : eqI s.a 7
  rotate_left
  · exact l3Leads_wed7 ps us s a b ha hb h h1 h2 h5 h6 h7
  cases h8 : eqI s.a 8
  rotate_left
  · exact l3Leads_wed8 ps us s a b ha hb h h1 h2 h5 h6 h7 h8
  · exact l3Leads_sib ps us s a b ha hb h h1 h2 h5 h6 h7 h8
end Go.Proofs.YtdhmnojnkgmmnaaGreat


namespace Go.Proofs.YtdhmnojnkgmmnaaGreat
open Go.Lg
set_option maxHeartbeats 3200000
set_option maxRecDepth 10000
set_option linter.unusedVariables false
set_option linter.unusedSimpArgs false

/-- The relation of a step; nothing if the family or the step is not valid. -/
def stepN (ps : List Per) (us : List Uni) (s : Pr) : Nat := match famOk ps us && stepB s.a s.b 0 with | true => ps.length | false => 0
end Go.Proofs.YtdhmnojnkgmmnaaGreat
